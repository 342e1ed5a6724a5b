/-
  The calculus (SxA): code, loops, functions: its soundness.
-/
import Derived.Test.YthfgocpejlhanaaSxJ
import Derived.Test.YthfgocpejlhanaaSxV
import Derived.Test.YthfgocpejlhanaaSxX
import Derived.RangeFuncLeaves
import Derived.LoopN
namespace Go.Sx
open Go.RowKit

section
variable {P : Program}

theorem AV.cell1_ren (σ : List Nat) (x : AV) : (x.ren σ).cell1 = x.cell1 := by
  cases x <;> simp only [AV.ren, AV.cell1]

theorem AV.renL_eq (σ : List Nat) : ∀ l : List AV, AV.renL σ l = l.map (AV.ren σ)
  | [] => rfl
  | x :: l => by simp [AV.renL, AV.renL_eq σ l]

theorem AV.underL_mem {n : Nat} : ∀ {l : List AV}, AV.underL n l = true → ∀ x ∈ l, x.under n = true
  | [], _, x, hx => by simp at hx
  | y :: l, h, x, hx => by
    simp only [AV.underL, Bool.and_eq_true] at h
    simp only [List.mem_cons] at hx
    rcases hx with rfl | hx
    · exact h.1
    · exact AV.underL_mem h.2 x hx

theorem AV.sound_ren (σ : List Nat) (x : AV) : (x.ren σ).sound = x.sound := by
  cases x <;> simp only [AV.ren, AV.sound, AV.cell1]
  rename_i cs
  rw [AV.renL_eq, List.all_map]
  congr 1
  funext c
  exact AV.cell1_ren σ c

theorem AV.cells_ren (σ : List Nat) (x : AV) : (x.ren σ).cells = x.cells.map (AV.ren σ) := by
  cases x <;> simp only [AV.ren, AV.cells, List.map_cons, List.map_nil]
  rw [AV.renL_eq]

theorem AV.under_cells {n : Nat} {x : AV} (h : x.under n = true) : ∀ c ∈ x.cells, c.under n = true := by
  intro c hc
  cases x <;> simp only [AV.cells, List.mem_cons, List.not_mem_nil, or_false] at hc <;> try (subst hc; exact h)
  exact AV.underL_mem (by simpa [AV.under] using h) c hc

def locAt (ρ : List Loc) (j : Nat) : Loc := ρ.getD j ⟨0, 0, 0, 0, false⟩

theorem locAt_get {ρ : List Loc} {σ : List Nat} {r : Nat} {l : Loc} (hr : r < σ.length) (h : ρ[σ.getD r 0]? = some l) : (σ.map (locAt ρ))[r]? = some l := by
  rw [List.getElem?_map, List.getElem?_eq_getElem hr]
  simp only [Option.map_some, locAt]
  rw [List.getD_eq_getElem?_getD, List.getElem?_eq_getElem hr] at h
  simp only [Option.getD_some] at h
  rw [List.getD_eq_getElem?_getD, h]; rfl

theorem locAt_at {ρ : List Loc} {σ : List Nat} {r : Nat} {l : Loc} (hr : r < σ.length) (h : At ρ (σ.getD r 0) l) : At (σ.map (locAt ρ)) r l := ⟨locAt_get hr h.1, h.2⟩

mutual
theorem AVR.unren {ρ : List Loc} {σ : List Nat} : ∀ (y : AV) {v : Value}, y.under σ.length = true → AVR ρ (y.ren σ) v → AVR (σ.map (locAt ρ)) y v
  | .any, _, _, _ => .any _
  | .lit _, _, _, h => by cases h; exact .lit _
  | .int _ _, _, _, h => by cases h; exact .int _ _
  | .w64 _, _, _, h => by cases h; exact .w64 _
  | .bool _, _, _, h => by cases h; exact .bool _
  | .val _, _, _, h => by cases h; exact .val _
  | .ptr r i o st, _, hu, h => by
    simp only [AV.under, decide_eq_true_eq] at hu
    simp only [AV.ren] at h
    cases h with | ptr h => exact .ptr (locAt_at hu h)
  | .slice r i n st, _, hu, h => by
    simp only [AV.under, decide_eq_true_eq] at hu
    simp only [AV.ren] at h
    cases h with | slice h h1 h2 h3 => exact .slice (locAt_at hu h) h1 h2 h3
  | .vsl r i n, _, hu, h => by
    simp only [AV.under, decide_eq_true_eq] at hu
    simp only [AV.ren] at h
    cases h with
    | vslS h h1 h2 h3 => exact .vslS (locAt_at hu h) h1 h2 h3
    | vslN h => exact .vslN h
  | .mp r, _, hu, h => by
    simp only [AV.under, decide_eq_true_eq] at hu
    simp only [AV.ren] at h
    cases h with | mp h => exact .mp (locAt_at hu h)
  | .agg cs, _, hu, h => by
    simp only [AV.under] at hu
    simp only [AV.ren] at h
    cases h with | agg h => exact .agg (AVRs.unren cs hu h)
  | .tuple cs, _, hu, h => by
    simp only [AV.under] at hu
    simp only [AV.ren] at h
    cases h with | tuple h => exact .tuple (AVRs.unren cs hu h)
  | .func fn a b, _, hu, h => by
    simp only [AV.under, Bool.and_eq_true] at hu
    simp only [AV.ren] at h
    cases h with | func h1 h2 => exact .func (AVRs.unren a hu.1 h1) (AVRs.unren b hu.2 h2)
  | .iface t x, _, hu, h => by
    simp only [AV.under] at hu
    simp only [AV.ren] at h
    cases h with | iface h => exact .iface (AVR.unren x hu h)
theorem AVRs.unren {ρ : List Loc} {σ : List Nat} : ∀ (ys : List AV) {vs : List Value}, AV.underL σ.length ys = true → AVRs ρ (AV.renL σ ys) vs → AVRs (σ.map (locAt ρ)) ys vs
  | [], _, _, h => by simp only [AV.renL] at h; cases h; exact .nil
  | y :: ys, _, hu, h => by
    simp only [AV.underL, Bool.and_eq_true] at hu
    simp only [AV.renL] at h
    cases h with | cons h0 h1 => exact .cons (AVR.unren y hu.1 h0) (AVRs.unren ys hu.2 h1)
end

theorem AV.sub_rel {ρ : List Loc} {σ : List Nat} {x y : AV} {v : Value} (h : x.sub σ y) (hr : AVR ρ x v) : AVR (σ.map (locAt ρ)) y v := by
  unfold AV.sub at h
  split at h
  · exact .any v
  · obtain ⟨hu, rfl | hc⟩ := h
    · exact AVR.unren _ hu hr
    · exact AVR.unren _ hu (hc ▸ canon2_rel hr)

theorem subT_rel {ρ : List Loc} {σ : List Nat} : ∀ {l m : List AV}, subT σ l m → l.length = m.length ∧ ∀ (i : Nat) y, m[i]? = some y → ∃ x, l[i]? = some x ∧ x.sub σ y
  | [], [], _ => ⟨rfl, by simp⟩
  | [], _ :: _, h => h.elim
  | _ :: _, [], h => h.elim
  | x :: l, y :: m, h => by
    obtain ⟨h1, h2⟩ := subT_rel (ρ := ρ) h.2
    refine ⟨by simp [h1], fun i z hz => ?_⟩
    cases i with
    | zero => simp at hz; subst hz; exact ⟨x, by simp, h.1⟩
    | succ i => simp at hz; simpa using h2 i z hz

theorem subH_rel {σ : List Nat} {h : Hp} : ∀ {l : List Nat} {m : Hp}, subH σ h l m → l.length = m.length ∧ ∀ (i : Nat) k', m[i]? = some (some k') → (∃ k, h.row (l.getD i 0) = some k ∧ subB σ k k') ∨ h.obj (l.getD i 0) = some k'
  | [], [], _ => ⟨rfl, by simp⟩
  | [], _ :: _, h => h.elim
  | _ :: _, [], h => h.elim
  | r :: l, k1 :: m, hs => by
    obtain ⟨h1, h2⟩ := subH_rel hs.2
    refine ⟨by simp [h1], fun i k' hk => ?_⟩
    cases i with
    | zero =>
      have h0 := hs.1
      simp at hk
      subst hk
      dsimp only at h0
      split at h0
      · rename_i k2 hk2; exact .inl ⟨k2, by simpa using hk2, h0⟩
      · split at h0
        · rename_i k2 hk2; subst h0; exact .inr (by simpa using hk2)
        · exact h0.elim
    | succ i =>
      have := h2 i k' (by simpa using hk)
      simpa using this

theorem RowIs.canon {ρ : List Loc} {f : Bool} {esz : Nat} {elems : List AV} {arr : List Value} (h : RowIs ρ f esz elems arr) : RowIs ρ f esz (elems.map canon) arr := by
  intro i e he
  rw [List.getElem?_map] at he
  cases hg : elems[i]? with
  | none => simp [hg] at he
  | some x =>
    simp [hg] at he; subst he
    obtain ⟨h1, h2, h3⟩ := h i x hg
    rw [canon_cells, canon_sound]
    refine ⟨by simpa using h1, h2, fun o c hc => ?_⟩
    rw [List.getElem?_map] at hc
    cases hc' : x.cells[o]? with
    | none => simp [hc'] at hc
    | some c' =>
      simp [hc'] at hc; subst hc
      obtain ⟨v, hv, hr⟩ := h3 o c' hc'
      exact ⟨v, hv, canon1_rel hr⟩

theorem subH_len {σ : List Nat} {h h' : Hp} (hh : subH σ h σ h') : h'.length = σ.length := (subH_rel hh).1.symm

/-- Of rows that are kept: which they were. -/
theorem sub_at {σ : List Nat} {h h' : Hp} (hh : subH σ h σ h') {B : Gd} {ρ : List Loc} {w : World} (hH : HpR B ρ h w) :
    (∀ {j k' l}, h'.row j = some k' → At (σ.map (locAt ρ)) j l → ∃ k, h.row (σ.getD j 0) = some k ∧ subB σ k k' ∧ At ρ (σ.getD j 0) l ∧ j < σ.length) ∧
    (∀ {j k' l}, h'.obj j = some k' → At (σ.map (locAt ρ)) j l → h.obj (σ.getD j 0) = some k' ∧ At ρ (σ.getD j 0) l ∧ j < σ.length) := by
  obtain ⟨h1, h2⟩ := subH_rel hh
  have hat : ∀ {r l}, r < σ.length → σ.getD r 0 < h.length → At (σ.map (locAt ρ)) r l → At ρ (σ.getD r 0) l := by
    rintro r l hr hs ⟨hl', hp⟩
    have hlen : σ.getD r 0 < ρ.length := by rw [hH.len]; exact hs
    have := locAt_get (ρ := ρ) (σ := σ) hr (List.getElem?_eq_getElem hlen)
    rw [hl'] at this
    exact ⟨by rw [List.getElem?_eq_getElem hlen]; exact this.symm, hp⟩
  refine ⟨fun {j k' l} hk hl => ?_, fun {j k' l} hk hl => ?_⟩
  · have hj : j < σ.length := by rw [h1]; exact row_lt hk
    have hg := get_row.1 hk
    rcases h2 j k' hg.1 with ⟨k, hk2, hb⟩ | ho
    · exact ⟨k, hk2, hb, hat hj (row_lt hk2) hl, hj⟩
    · exact absurd (get_obj.1 ho).2 hg.2
  · have hj : j < σ.length := by rw [h1]; exact obj_lt hk
    have hg := get_obj.1 hk
    rcases h2 j k' hg.1 with ⟨k, hk2, b1, b2, b3, b4⟩ | ho
    · exact absurd (b3.symm.trans hg.2) (get_row.1 hk2).2
    · exact ⟨ho, hat hj (obj_lt ho) hl, hj⟩

/-- Rows that are kept of a heap, in their new order: of these the places are as they were. -/
theorem subHp {σ : List Nat} {h h' : Hp} (hnd : σ.Nodup) (hh : subH σ h σ h') {B : Gd} {ρ : List Loc} {w : World} (hH : HpR B ρ h w) : HpR B (σ.map (locAt ρ)) h' w := by
  obtain ⟨h1, h2⟩ := subH_rel hh
  have hlt : ∀ {r k'}, Hp.row h' r = some k' → r < σ.length := fun hk => by rw [h1]; exact row_lt hk
  have hlto : ∀ {r k'}, Hp.obj h' r = some k' → r < σ.length := fun hk => by rw [h1]; exact obj_lt hk
  have hat : ∀ {r l}, r < σ.length → σ.getD r 0 < h.length → At (σ.map (locAt ρ)) r l → At ρ (σ.getD r 0) l := by
    rintro r l hr hs ⟨hl', hp⟩
    have hlen : σ.getD r 0 < ρ.length := by rw [hH.len]; exact hs
    have := locAt_get (ρ := ρ) (σ := σ) hr (List.getElem?_eq_getElem hlen)
    rw [hl'] at this
    exact ⟨by rw [List.getElem?_eq_getElem hlen]; exact this.symm, hp⟩
  have hobjs : ∀ {r k'}, Hp.obj h' r = some k' → h.obj (σ.getD r 0) = some k' := by
    intro r k' hk
    have hg := get_obj.1 hk
    rcases h2 r k' hg.1 with ⟨k, hk2, b1, b2, b3, b4⟩ | ho
    · exact absurd (b3.symm.trans hg.2) (get_row.1 hk2).2
    · exact ho
  have hloco : ∀ {r k' l}, Hp.obj h' r = some k' → At (σ.map (locAt ρ)) r l → h.obj (σ.getD r 0) = some k' ∧ At ρ (σ.getD r 0) l := by
    intro r k' l hk hl'
    have hg := get_obj.1 hk
    rcases h2 r k' hg.1 with ⟨k, hk2, b1, b2, b3, b4⟩ | ho
    · exact absurd (b3.symm.trans hg.2) (get_row.1 hk2).2
    · exact ⟨ho, hat (hlto hk) (obj_lt ho) hl'⟩
  have hloc : ∀ {r k' l}, Hp.row h' r = some k' → At (σ.map (locAt ρ)) r l → ∃ k, h.row (σ.getD r 0) = some k ∧ subB σ k k' ∧ At ρ (σ.getD r 0) l := by
    intro r k' l hk hl'
    have hg := get_row.1 hk
    rcases h2 r k' hg.1 with ⟨k, hk2, hb⟩ | ho
    · exact ⟨k, hk2, hb, hat (hlt hk) (row_lt hk2) hl'⟩
    · exact absurd (get_obj.1 ho).2 hg.2
  have inj : ∀ r r', r < σ.length → r' < σ.length → r ≠ r' → σ.getD r 0 ≠ σ.getD r' 0 := by
    intro r r' a1 a2 hne
    rw [List.getD_eq_getElem?_getD, List.getD_eq_getElem?_getD, List.getElem?_eq_getElem a1, List.getElem?_eq_getElem a2]
    simp only [Option.getD_some]
    intro heq
    have hp := List.pairwise_iff_getElem.1 hnd
    rcases Nat.lt_or_gt_of_ne hne with h | h
    · exact hp r r' a1 a2 h heq
    · exact hp r' r a2 a1 h heq.symm
  refine ⟨by simp [h1], hH.base, fun r k' l hk hl' => ?_, fun r r' k1 k2 l1 l2 hk hk' hw hne hl1 hl2 => ?_, hH.glob, hH.objs.elim fun o hO => ⟨_, hO.via (σ.getD · 0) (fun r r' k k' hk hk' hne => inj r r' (hlto hk) (hlto hk') hne) (fun r k l hk hl => ?_) (fun r k l hk hl => ?_) fun r k hk => let ⟨_, hl⟩ := hO.here _ _ (hobjs hk); ⟨_, locAt_at (hlto hk) hl⟩⟩⟩
  rotate_left 2
  · obtain ⟨a, b⟩ := hloco hk hl
    exact ⟨b, k, a, rfl, rfl, fun h => ⟨h, .refl _⟩⟩
  · obtain ⟨k0, a, c, b⟩ := hloc hk hl
    exact ⟨b, k0, a, c.1⟩
  · obtain ⟨k, hk2, ⟨b1, b2, b3, b4, b5⟩, hl2⟩ := hloc hk hl'
    have hb := hH.blk _ k l hk2 hl2
    obtain ⟨cur, ty, fr, g1, g2, g3⟩ := hb.rowIs
    have hlen : k'.elems.length = k.elems.length := by
      cases hf : k.flat with
      | true => simp only [hf] at b5; rcases b5 with b5 | b5 <;> rw [b5]; simp
      | false => simp only [hf] at b5; rcases b5.2 with b5 | b5 <;> (have := congrArg List.length b5; simpa using this)
    refine .ofRow (hb.esz.trans b3.symm) g1 ?_ fun hw => ?_
    · rw [b4, b3]
      cases hf : k.flat with
      | true =>
        simp only [hf] at b5
        rw [hf] at g2
        have g2' : RowIs ρ true k.esz k'.elems (cur.toList.drop l.off) := by
          rcases b5 with b5 | b5
          · rw [b5]; exact g2
          · rw [b5]; exact g2.canon
        intro i e he
        obtain ⟨q1, q2, q3⟩ := g2' i e he
        exact ⟨q1, q2, fun o c hc => by simpa using q3 o c hc⟩
      | false =>
        simp only [hf] at b5
        rw [hf] at g2
        have g2' : RowIs ρ false k.esz (k'.elems.map (AV.ren σ)) (cur.toList.drop l.off) := by
          rcases b5.2 with b6 | b6
          · rw [b6]; exact g2
          · rw [b6]; exact g2.canon
        intro i e he
        have he' : (k'.elems.map (AV.ren σ))[i]? = some (e.ren σ) := by rw [List.getElem?_map, he]; rfl
        obtain ⟨q1, q2, q3⟩ := g2' i _ he'
        rw [AV.cells_ren] at q1 q3
        have hue : e.under σ.length = true := List.all_eq_true.1 b5.1 e (List.mem_of_getElem? he)
        refine ⟨by simpa using q1, by rw [AV.sound_ren] at q2; exact q2, fun o c hc => ?_⟩
        obtain ⟨v, hv, hr⟩ := q3 o (c.ren σ) (by rw [List.getElem?_map, hc]; rfl)
        exact ⟨v, hv, by simpa using AVR.unren c (AV.under_cells hue c (List.mem_of_getElem? hc)) (by simpa using hr)⟩
    · obtain ⟨q0, q1, q2, q3, q4, q5, q6⟩ := g3 (b1 hw)
      exact ⟨q0.trans b2.symm, q1, q2, by rw [b3]; exact q3, q4, q5, by rw [hlen]; exact q6⟩
  · obtain ⟨k1', e1, ⟨b1, _⟩, f1⟩ := hloc hk hl1
    obtain ⟨k2', e2, _, f2⟩ := hloc hk' hl2
    exact hH.sep _ _ k1' k2' l1 l2 e1 e2 (b1 hw) (inj r r' (hlt hk) (hlt hk') hne) f1 f2

theorem sub_rel {n0 : Nat} {σ : List Nat} {s s' : St} (h : s.sub n0 σ s') {B : Gd} {ρ0 ρ1 : List Loc} (hl : ρ0.length = n0) {a : Act} {w : World} (hH : HpR B (ρ0 ++ ρ1) s.h w) (hT : TmpsR (ρ0 ++ ρ1) s.t a) :
    ∃ ρ2, HpR B (ρ0 ++ ρ2) s'.h w ∧ TmpsR (ρ0 ++ ρ2) s'.t a := by
  obtain ⟨hnd, htk, ht, hh⟩ := h
  obtain ⟨t1, t2⟩ := subT_rel (ρ := ρ0 ++ ρ1) ht
  obtain ⟨h1, h2⟩ := subH_rel hh
  generalize hρ : ρ0 ++ ρ1 = ρ at hH hT
  have hn0 : n0 ≤ σ.length := by have := congrArg List.length htk; simp at this; omega
  have hpre : ∃ ρ2, σ.map (locAt ρ) = ρ0 ++ ρ2 := by
    refine ⟨(σ.map (locAt ρ)).drop n0, ?_⟩
    conv => lhs; rw [← List.take_append_drop n0 (σ.map (locAt ρ))]
    congr 1
    rw [← List.map_take, htk]
    apply List.ext_getElem?
    intro i
    rw [List.getElem?_map]
    by_cases hi : i < n0
    · rw [List.getElem?_range hi, Option.map_some, locAt, ← hρ, List.getD_eq_getElem?_getD, List.getElem?_append_left (by omega), List.getElem?_eq_getElem (by omega)]
      rfl
    · rw [List.getElem?_eq_none (by simp; omega), List.getElem?_eq_none (by omega)]; rfl
  obtain ⟨ρ2, hρ2⟩ := hpre
  refine ⟨ρ2, ?_, ?_⟩
  · rw [← hρ2]
    exact subHp hnd hh hH
  · rw [← hρ2]
    refine ⟨by rw [← t1]; exact hT.len, fun i y hy => ?_⟩
    obtain ⟨x, hx, hs⟩ := t2 i y hy
    obtain ⟨v, hv, hr⟩ := hT.get i x hx
    exact ⟨v, hv, AV.sub_rel hs hr⟩

theorem idxN_spec {r : Nat} : ∀ {l : List Nat} {j n : Nat}, idxN r j l = some n → j ≤ n ∧ l[n - j]? = some r
  | [], _, _, h => by simp [idxN] at h
  | x :: l, j, n, h => by
    unfold idxN at h
    split at h
    · rename_i hd
      simp at h; subst h
      have := of_decide_eq_true hd
      subst this
      simp
    · obtain ⟨h1, h2⟩ := idxN_spec h
      refine ⟨by omega, ?_⟩
      obtain ⟨d, rfl⟩ : ∃ d, n = j + 1 + d := ⟨n - (j + 1), by omega⟩
      rw [show j + 1 + d - (j + 1) = d from by omega] at h2
      rw [show j + 1 + d - j = d + 1 from by omega]
      simpa using h2

theorem idxN_get {r n : Nat} {σ : List Nat} (h : idxN r 0 σ = some n) : n < σ.length ∧ σ.getD n 0 = r := by
  obtain ⟨_, h2⟩ := idxN_spec h
  rw [Nat.sub_zero] at h2
  exact ⟨(List.getElem?_eq_some_iff.1 h2).1, by rw [List.getD_eq_getElem?_getD, h2]; rfl⟩

mutual
theorem unrenO_spec {σ : List Nat} : ∀ (x : AV) {y : AV}, x.unrenO σ = some y → y.under σ.length = true ∧ y.ren σ = x
  | .ptr r i o st, y, h => by
    unfold AV.unrenO at h
    split at h
    · rename_i j hj
      simp at h; subst h
      obtain ⟨h1, h2⟩ := idxN_get hj
      exact ⟨by simpa [AV.under] using h1, by simp only [AV.ren, h2]⟩
    · simp at h
  | .slice r i n st, y, h => by
    unfold AV.unrenO at h
    split at h
    · rename_i j hj
      simp at h; subst h
      obtain ⟨h1, h2⟩ := idxN_get hj
      exact ⟨by simpa [AV.under] using h1, by simp only [AV.ren, h2]⟩
    · simp at h
  | .vsl r i n, y, h => by
    unfold AV.unrenO at h
    split at h
    · rename_i j hj
      simp at h; subst h
      obtain ⟨h1, h2⟩ := idxN_get hj
      exact ⟨by simpa [AV.under] using h1, by simp only [AV.ren, h2]⟩
    · simp at h
  | .mp r, y, h => by
    unfold AV.unrenO at h
    split at h
    · rename_i j hj
      simp at h; subst h
      obtain ⟨h1, h2⟩ := idxN_get hj
      exact ⟨by simpa [AV.under] using h1, by simp only [AV.ren, h2]⟩
    · simp at h
  | .agg cs, y, h => by
    unfold AV.unrenO at h
    split at h
    · rename_i l hl
      simp at h; subst h
      obtain ⟨h1, h2⟩ := unrenL_spec cs hl
      exact ⟨by simpa [AV.under] using h1, by simp only [AV.ren, h2]⟩
    · simp at h
  | .tuple cs, y, h => by
    unfold AV.unrenO at h
    split at h
    · rename_i l hl
      simp at h; subst h
      obtain ⟨h1, h2⟩ := unrenL_spec cs hl
      exact ⟨by simpa [AV.under] using h1, by simp only [AV.ren, h2]⟩
    · simp at h
  | .func fn a b, y, h => by
    unfold AV.unrenO at h
    split at h
    · rename_i la lb ha hb
      simp at h; subst h
      obtain ⟨h1, h2⟩ := unrenL_spec a ha
      obtain ⟨h3, h4⟩ := unrenL_spec b hb
      exact ⟨by simp [AV.under, h1, h3], by simp only [AV.ren, h2, h4]⟩
    · simp at h
  | .iface t v, y, h => by
    unfold AV.unrenO at h
    split at h
    · rename_i u hu
      simp at h; subst h
      obtain ⟨h1, h2⟩ := unrenO_spec v hu
      exact ⟨by simpa [AV.under] using h1, by simp only [AV.ren, h2]⟩
    · simp at h
  | .any, y, h => by simp only [AV.unrenO, Option.some.injEq] at h; subst h; exact ⟨rfl, rfl⟩
  | .lit v, y, h => by simp only [AV.unrenO, Option.some.injEq] at h; subst h; exact ⟨rfl, rfl⟩
  | .int k n, y, h => by simp only [AV.unrenO, Option.some.injEq] at h; subst h; exact ⟨rfl, rfl⟩
  | .w64 x, y, h => by simp only [AV.unrenO, Option.some.injEq] at h; subst h; exact ⟨rfl, rfl⟩
  | .bool b, y, h => by simp only [AV.unrenO, Option.some.injEq] at h; subst h; exact ⟨rfl, rfl⟩
  | .val v, y, h => by simp only [AV.unrenO, Option.some.injEq] at h; subst h; exact ⟨rfl, rfl⟩
theorem unrenL_spec {σ : List Nat} : ∀ (xs : List AV) {ys : List AV}, AV.unrenL σ xs = some ys → AV.underL σ.length ys = true ∧ AV.renL σ ys = xs
  | [], ys, h => by simp only [AV.unrenL, Option.some.injEq] at h; subst h; exact ⟨rfl, rfl⟩
  | x :: xs, ys, h => by
    unfold AV.unrenL at h
    split at h
    · rename_i y l hy hl
      simp at h; subst h
      obtain ⟨h1, h2⟩ := unrenO_spec x hy
      obtain ⟨h3, h4⟩ := unrenL_spec xs hl
      exact ⟨by simp [AV.underL, h1, h3], by simp only [AV.renL, h2, h4]⟩
    · simp at h
end

theorem sub_of {σ : List Nat} {x y : AV} (h : y.under σ.length = true ∧ (y.ren σ = x ∨ y.ren σ = canon2 x)) : x.sub σ y := by
  unfold AV.sub; split
  · trivial
  · exact h

theorem weakT_sub {σ : List Nat} : ∀ {ms : List Nat} {xs ys : List AV}, weakT σ ms xs = some ys → subT σ xs ys
  | [], [], ys, h => by simp [weakT] at h; subst h; trivial
  | [], _ :: _, ys, h => by simp [weakT] at h
  | _ :: _, [], ys, h => by simp [weakT] at h
  | m :: ms, x :: xs, ys, h => by
    unfold weakT at h
    split at h
    · split at h
      · rename_i l hl
        simp at h; subst h
        exact ⟨trivial, weakT_sub hl⟩
      · simp at h
    · split at h
      · rename_i y l hy hl
        simp at h; subst h
        obtain ⟨h1, h2⟩ := unrenO_spec _ hy
        exact ⟨sub_of ⟨h1, .inl h2⟩, weakT_sub hl⟩
      · simp at h
    · split at h
      · rename_i y l hy hl
        simp at h; subst h
        obtain ⟨h1, h2⟩ := unrenO_spec _ hy
        exact ⟨sub_of ⟨h1, .inr h2⟩, weakT_sub hl⟩
      · simp at h

theorem underL_all {n : Nat} : ∀ {l : List AV}, AV.underL n l = true → l.all (AV.under n) = true
  | [], _ => rfl
  | x :: l, h => by
    simp only [AV.underL, Bool.and_eq_true] at h
    simp [h.1, underL_all h.2]

theorem weakB_sub {σ : List Nat} {m : Nat} {k k' : Blk} (h : weakB σ m k = some k') : subB σ k k' := by
  unfold weakB at h
  split at h
  · rename_i hf
    split at h
    · simp at h; subst h
      exact ⟨fun h => h, rfl, rfl, rfl, by rw [hf]; exact .inl rfl⟩
    · simp at h; subst h
      exact ⟨fun h => h, rfl, rfl, rfl, by rw [hf]; exact .inr rfl⟩
  · rename_i hf
    split at h
    · rename_i l hl
      simp at h; subst h
      obtain ⟨h1, h2⟩ := unrenL_spec _ hl
      rw [AV.renL_eq] at h2
      refine ⟨fun h => h, rfl, rfl, rfl, ?_⟩
      rw [hf]
      refine ⟨underL_all h1, ?_⟩
      split at h2
      · exact .inl h2
      · exact .inr h2
    · simp at h

theorem weakH_sub {σ : List Nat} {h : Hp} : ∀ {rs ms : List Nat} {l : Hp}, weakH σ h rs ms = some l → subH σ h rs l
  | [], [], l, hh => by simp [weakH] at hh; subst hh; trivial
  | [], _ :: _, l, hh => by simp [weakH] at hh
  | _ :: _, [], l, hh => by simp [weakH] at hh
  | r :: rs, m :: ms, l, hh => by
    unfold weakH at hh
    split at hh
    · simp at hh
    · rename_i l' hl'
      split at hh
      · simp at hh; subst hh
        exact ⟨trivial, weakH_sub hl'⟩
      · split at hh
        · rename_i k hk
          split at hh
          · rename_i k' hk'
            simp at hh; subst hh
            refine ⟨?_, weakH_sub hl'⟩
            dsimp only
            rw [hk]
            exact weakB_sub hk'
          · simp at hh
        · rename_i hn
          split at hh
          · rename_i k hk
            simp at hh; subst hh
            refine ⟨?_, weakH_sub hl'⟩
            dsimp only
            rw [hn, hk]
          · simp at hh

theorem toV_rel {ρ : List Loc} {x y : AV} {v : Value} (h : toV x = some y) (hr : AVR ρ x v) : AVR ρ y v := by
  unfold toV at h
  split at h
  · simp at h; subst h; exact vsl_of hr
  · simp at h; subst h; exact hr
  · simp at h

theorem TmpsR.set {ρ : List Loc} {ts : List AV} {a : Act} (h : TmpsR ρ ts a) (j : Nat) {y : AV} (hy : ∀ v, AVR ρ (ts.getD j .any) v → AVR ρ y v) : TmpsR ρ (ts.set j y) a := by
  refine ⟨by simp [h.len], fun i z hz => ?_⟩
  by_cases e : j = i
  · subst e
    have hlt : j < ts.length := by simpa using (List.getElem?_eq_some_iff.1 hz).1
    rw [List.getElem?_set_self hlt] at hz
    cases hz
    obtain ⟨v, hv, hr⟩ := h.get j _ (List.getElem?_eq_getElem hlt)
    refine ⟨v, hv, hy v ?_⟩
    rw [List.getD_eq_getElem?_getD, List.getElem?_eq_getElem hlt]; exact hr
  · rw [List.getElem?_set_ne e] at hz; exact h.get i z hz

theorem addSl_rel {ρ : List Loc} {B : Gd} {a : Act} {w : World} : ∀ {l : List Nat} {s T : St}, addSl l s = some T → HpR B ρ s.h w → TmpsR ρ s.t a → HpR B ρ T.h w ∧ TmpsR ρ T.t a
  | [], s, T, h, hH, hT => by simp [addSl] at h; subst h; exact ⟨hH, hT⟩
  | j :: l, s, T, h, hH, hT => by
    unfold addSl at h
    split at h
    · rename_i x hx
      exact addSl_rel (s := { s with t := s.t.set j x }) h hH (hT.set j fun v hv => toV_rel hx hv)
    · simp at h

theorem addPh_rel {B : Gd} {a : Act} {w : World} : ∀ {l : List (Nat × TypeId × Nat)} {s T : St} {ρ : List Loc}, addPh l s = some T → HpR B ρ s.h w → TmpsR ρ s.t a → ∃ ρ2, HpR B (ρ ++ ρ2) T.h w ∧ TmpsR (ρ ++ ρ2) T.t a
  | [], s, T, ρ, h, hH, hT => by simp [addPh] at h; subst h; exact ⟨[], by simpa using hH, by simpa using hT⟩
  | (j, ty, esz) :: l, s, T, ρ, h, hH, hT => by
    unfold addPh at h
    split at h
    · rename_i hx
      split at h
      · simp at h
      · obtain ⟨ρ2, h1, h2⟩ := addPh_rel (ρ := ρ ++ [⟨0, 0, 0, 0, true⟩]) h (hH.pushPh _ (Nat.succ_ne_zero _) rfl) ((hT.app _).set j fun v hv => by
          rw [hx] at hv; cases hv; exact .vslN rfl)
        exact ⟨⟨0, 0, 0, 0, true⟩ :: ρ2, by simpa using h1, by simpa using h2⟩
    · split at h
      · rename_i hb
        obtain ⟨ρ1, h1⟩ := addBx_rel hb hH
        obtain ⟨ρ2, h2, h3⟩ := addPh_rel (s := ⟨s.t, _⟩) (ρ := ρ ++ ρ1) h h1 (hT.app _)
        exact ⟨ρ1 ++ ρ2, by simpa using h2, by simpa using h3⟩
      · simp at h
    · simp at h

theorem weak_rel1 {n0 : Nat} {M : Modes} {s T : St} (h : weakSt1 n0 M s = some T) {B : Gd} {ρ0 ρ1 : List Loc} (hl : ρ0.length = n0) {a : Act} {w : World} (hH : HpR B (ρ0 ++ ρ1) s.h w) (hT : TmpsR (ρ0 ++ ρ1) s.t a) :
    ∃ ρ2, HpR B (ρ0 ++ ρ2) T.h w ∧ TmpsR (ρ0 ++ ρ2) T.t a := by
  unfold weakSt1 at h
  split at h
  · simp at h
  · rename_i hd
    obtain ⟨h1, h2⟩ := of_decide_eq_true hd
    split at h
    · rename_i t hp ht hh
      obtain ⟨ρ2, hH2, hT2⟩ := sub_rel (s' := ⟨t, hp⟩) (σ := M.σ) ⟨h1, h2, weakT_sub ht, weakH_sub hh⟩ hl hH hT
      split at h
      · rename_i s2 hs2
        obtain ⟨hH3, hT3⟩ := addSl_rel hs2 hH2 hT2
        obtain ⟨ρ3, hH4, hT4⟩ := addPh_rel h hH3 hT3
        exact ⟨ρ2 ++ ρ3, by simpa using hH4, by simpa using hT4⟩
      · simp at h
    · simp at h

theorem weak_rel {n0 : Nat} {M : Modes} {s T : St} (h : weakSt n0 M s = some T) {B : Gd} {ρ0 ρ1 : List Loc} (hl : ρ0.length = n0) {a : Act} {w : World} (hH : HpR B (ρ0 ++ ρ1) s.h w) (hT : TmpsR (ρ0 ++ ρ1) s.t a) :
    ∃ ρ2, HpR B (ρ0 ++ ρ2) T.h w ∧ TmpsR (ρ0 ++ ρ2) T.t a := weak_rel1 h hl hH hT

def ExR : Exit → Ex → Prop
  | .normal, .normal => True
  | .exit i, .exit j => i = j
  | .ret, .ret => True
  | .goto i, .goto j => i = j
  | _, _ => False

/-- Behind a loop over a function the activation holds a mark, to be taken at the return. -/
def markOf (D : Nat) : Deferred := { target := .collected D, args := #[] }

/-- What an activation has to do at its return: marks more. -/
structure Mk (B B' : Gd) (ds ds' : List Deferred) (w : World) : Prop where
  le : Gd.le B B'
  is : ∃ Ds : List Nat, ds' = Ds.map markOf ++ ds ∧ Ds.Nodup ∧ ∀ D ∈ Ds, B' D ∧ ¬ B D ∧ w.heap[D]? = some (.deferred (some []))

theorem Mk.refl (B : Gd) (ds : List Deferred) (w : World) : Mk B B ds ds w := ⟨Gd.le.refl _, [], rfl, .nil, by simp⟩

theorem Mk.trans {B B1 B2 : Gd} {ds ds1 ds2 : List Deferred} {w1 w2 : World} (h : Mk B B1 ds ds1 w1) (k : Mk B1 B2 ds1 ds2 w2) (hb : Bel B1 w1 w2) : Mk B B2 ds ds2 w2 := by
  obtain ⟨le, Ds, rfl, nd, hD⟩ := h
  obtain ⟨le2, Ds2, rfl, nd2, hD2⟩ := k
  refine ⟨le.trans le2, Ds2 ++ Ds, by simp, List.nodup_append.2 ⟨nd2, nd, fun x hx y hy e => (hD2 x hx).2.1 (e ▸ (hD y hy).1)⟩, fun D hm => ?_⟩
  rcases List.mem_append.1 hm with hm | hm
  · exact ⟨(hD2 D hm).1, fun hB => (hD2 D hm).2.1 (le _ hB), (hD2 D hm).2.2⟩
  · exact ⟨le2 _ (hD D hm).1, (hD D hm).2.1, (hb.block D (hD D hm).1).trans (hD D hm).2.2⟩

theorem Mk.at {B : Gd} {ds ds' : List Deferred} (h : ds' = ds) (w : World) : Mk B B ds ds' w := h ▸ Mk.refl _ _ _

theorem leaves_marks {fn : Func} {tmps : Array Value} {R : Ending → World → Prop} : ∀ (Ds : List Nat) (w : World), Ds.Nodup → (∀ D ∈ Ds, w.heap[D]? = some (.deferred (some []))) →
    (∀ w', KeptC w w' → (∀ B : Gd, (∀ D ∈ Ds, ¬ B D) → Bel B w w') → LeavesInM Fence.wide 0 P fn tmps R [] .returning w') → LeavesInM Fence.wide 0 P fn tmps R (Ds.map markOf) .returning w
  | [], w, _, _, h => h w ⟨Nat.le_refl _, fun _ _ _ _ e => e, fun _ _ _ _ e => e⟩ fun _ _ => Bel.refl _ _
  | D :: Ds, w, nd, hD, h => by
    have hD0 := hD D List.mem_cons_self
    have hg := grownBy_putObj' w D (.deferred none)
    have hc : KeptC w (w.putObj D (.deferred none)) := keptC_other hg fun r e => by cases e; exact ⟨_, hD0, rfl, fun _ _ h => by cases h⟩
    obtain ⟨nd1, nd2⟩ := List.nodup_cons.1 nd
    refine ⟨by simp, .inl ⟨D, _, rfl, run_takeDeferred hD0, leaves_marks Ds _ nd2 (fun D' hm => ?_) fun w' hk hb => h w' ⟨Nat.le_trans hc.1 hk.1, fun b cur ty fr e => hk.2.1 _ _ _ _ (hc.2.1 _ _ _ _ e), fun hst b l c e => hk.2.2 hst _ _ _ (hc.2.2 hst _ _ _ e)⟩ fun B hB => ?_⟩⟩
    · exact (hg.block D' (Array.getElem?_eq_some_iff.1 (hD D' (List.mem_cons_of_mem _ hm))).1 (fun e => by cases e; exact nd1 hm)).trans (hD D' (List.mem_cons_of_mem _ hm))
    · refine Bel.trans (b := w.putObj D (.deferred none)) ?_ (hb B fun D' hm => hB D' (List.mem_cons_of_mem _ hm))
      exact ⟨⟨rfl, rfl, rfl, hg.size, fun b hb' => World.putObj_heap_other fun e => hB D List.mem_cons_self (e ▸ hb')⟩, fun _ => Nat.le_refl _⟩

/-- What a piece of code leaves. -/
def LeftE (ρ0 : List Loc) (B : Gd) (w : World) (ds : List Deferred) (K : Ex → St → List Hint → Prop) (e : Exit) (a' : Act) (w' : World) : Prop :=
  ∃ x ρ1 st' hs' B', ExR e x ∧ K x st' hs' ∧ TmpsR (ρ0 ++ ρ1) st'.t a' ∧ HpR B' (ρ0 ++ ρ1) st'.h w' ∧ Mk B B' ds a'.defers w' ∧ Bel B w w'

theorem LeftE.after {ρ0 : List Loc} {B B1 : Gd} {w w1 : World} {ds ds1 : List Deferred} {K : Ex → St → List Hint → Prop} {e : Exit} {a' : Act} {w' : World} (hm : Mk B B1 ds ds1 w1) (hb : Bel B w w1) (h : LeftE ρ0 B1 w1 ds1 K e a' w') : LeftE ρ0 B w ds K e a' w' :=
  let ⟨x, ρ1, st', hs', B', a, b, c, d, f, g⟩ := h; ⟨x, ρ1, st', hs', B', a, b, c, d, hm.trans f g, hb.trans (g.mono hm.le)⟩

theorem splits_iff {K : List Hint → Prop} : ∀ {n : Nat} {hs : List Hint}, splits n hs K → ∃ hs', K hs'
  | 0, hs, h => ⟨hs, h⟩
  | n + 1, hs, h => by
    unfold splits at h
    split at h
    · rename_i b l r _
      cases b
      · exact splits_iff (h.2 rfl)
      · exact splits_iff (h.1 rfl)
    · exact ⟨_, h⟩

mutual
theorem AV.same_eq : ∀ (x y : AV), AV.same x y = true → x = y := fun x y h => by
  unfold AV.same at h
  split at h
  · rfl
  · simp only [Bool.and_eq_true, decide_eq_true_eq] at h; rw [h.1, h.2]
  · rw [of_decide_eq_true h]
  · simp only [Bool.and_eq_true, decide_eq_true_eq] at h; rw [h.1, h.2]
  · rw [of_decide_eq_true h]
  · rw [of_decide_eq_true h]
  · simp only [Bool.and_eq_true, decide_eq_true_eq] at h; rw [h.1, h.2.1, h.2.2.1, h.2.2.2]
  · simp only [Bool.and_eq_true, decide_eq_true_eq] at h; rw [h.1, h.2.1, h.2.2.1, h.2.2.2]
  · simp only [Bool.and_eq_true, decide_eq_true_eq] at h; rw [h.1, h.2.1, h.2.2]
  · rw [of_decide_eq_true h]
  · rw [AV.sameL_eq _ _ h]
  · cases h
theorem AV.sameL_eq : ∀ (x y : List AV), AV.sameL x y = true → x = y := fun x y h => by
  unfold AV.sameL at h
  split at h
  · rfl
  · rw [Bool.and_eq_true] at h
    rw [AV.same_eq _ _ h.1, AV.sameL_eq _ _ h.2]
  · cases h
end

theorem Hp.same_eq : ∀ (h h' : Hp), Hp.same h h' = true → h = h'
  | [], [], _ => rfl
  | [], _ :: _, h => by cases h
  | _ :: _, [], h => by cases h
  | x :: l, y :: l', h => by
    unfold Hp.same at h
    rw [Bool.and_eq_true] at h
    rw [Hp.same_eq l l' h.2]
    have h1 := h.1
    unfold Blk.same at h1
    split at h1
    · simp only [Bool.and_eq_true, decide_eq_true_eq] at h1
      obtain ⟨rfl, rfl, rfl, rfl, e⟩ := h1
      rw [AV.sameL_eq _ _ e]
    · rfl
    · cases h1

theorem toDag_rel {n0 : Nat} {M : Nat → Modes} {Φ : Nat → St} {c : Nat} {s : St} (h : toDag n0 M Φ c s) {B : Gd} {ρ0 ρ1 : List Loc} (hl : ρ0.length = n0) {a : Act} {w : World} (hH : HpR B (ρ0 ++ ρ1) s.h w) (hT : TmpsR (ρ0 ++ ρ1) s.t a) :
    ∃ ρ2, HpR B (ρ0 ++ ρ2) (Φ c).h w ∧ TmpsR (ρ0 ++ ρ2) (Φ c).t a := by
  unfold toDag at h
  split at h
  · rename_i T hw
    have e : T = Φ c := by
      split at h
      · rename_i hs
        rw [Bool.and_eq_true] at hs
        have e1 := AV.sameL_eq _ _ hs.1
        have e2 := Hp.same_eq _ _ hs.2
        cases T
        generalize Φ c = S at e1 e2
        cases S
        dsimp only at e1 e2
        rw [e1, e2]
      · exact h
    exact e ▸ weak_rel hw hl hH hT
  · exact h.elim

theorem bitsN_zero : ∀ n : Nat, bitsN n 0 = List.replicate n false
  | 0 => rfl
  | n + 1 => by rw [bitsN, Nat.zero_div, bitsN_zero n, List.replicate_succ]; rfl

/-- How many have not come up. -/
def cF : List Bool → Nat
  | [] => 0
  | true :: l => cF l
  | false :: l => cF l + 1

theorem cF_le : ∀ l : List Bool, cF l ≤ l.length
  | [] => Nat.le_refl _
  | true :: l => Nat.le_succ_of_le (cF_le l)
  | false :: l => Nat.succ_le_succ (cF_le l)

theorem cF_set : ∀ {l : List Bool} {i : Nat}, l[i]? = some false → cF (l.set i true) + 1 = cF l
  | [], _, h => by simp at h
  | x :: l, 0, h => by
    simp only [List.getElem?_cons_zero, Option.some.injEq] at h
    subst h
    rfl
  | x :: l, i + 1, h => by
    have := cF_set (l := l) (i := i) (by simpa using h)
    cases x
    · show cF (l.set i true) + 1 + 1 = cF l + 1
      rw [this]
    · exact this

theorem allL_mem {α : Type} {p : α → Prop} : ∀ {l : List α}, allL p l → ∀ x ∈ l, p x
  | [], _, x, hx => by simp at hx
  | [y], h, x, hx => by simp at hx; subst hx; exact h
  | y :: z :: l, h, x, hx => by
    rcases List.mem_cons.1 hx with rfl | hx
    · exact h.1
    · exact allL_mem h.2 x hx

theorem hasN_iff {css : List (List Nat)} {c : Nat} (h : hasN css c = true) : ∃ cs ∈ css, c ∈ cs := by
  unfold hasN at h
  obtain ⟨cs, h1, h2⟩ := List.any_eq_true.1 h
  obtain ⟨d, h3, h4⟩ := List.any_eq_true.1 h2
  exact ⟨cs, h1, Nat.eq_of_beq_eq_true h4 ▸ h3⟩

theorem evDag_sound {C : Call} (hC : COK P false C) (hm : P.follows .mixedOrders = true) {ro : Option Nat} {n : Nat} {id : Nat} {ops : Array Oper} (hdf : ro = none ∨ (ops.all fun o => !defers o.op) = true) {n0 : Nat} {ρ0 ρ1 : List Loc} (hl : ρ0.length = n0)
    {css : List (List Nat)} {M : Nat → Modes} {Φ : Nat → St} {st : St} {hs : List Hint} {K : St → List Hint → Prop} {B : Gd} {a : Act} {w : World} (h : evDag n0 C P ops css M Φ st hs K) (hH : HpR B (ρ0 ++ ρ1) st.h w) (hT : TmpsR (ρ0 ++ ρ1) st.t a)
    {Q : Exit → Act → World → Prop} (hO : ∀ a w, ¬ Q .outgrown a w)
    (hn : ∀ a' w', (∃ ρ' st' hs', K st' hs' ∧ TmpsR (ρ0 ++ ρ') st'.t a' ∧ HpR B (ρ0 ++ ρ') st'.h w' ∧ a'.defers = a.defers ∧ Bel B w w') → Q .normal a' w') :
    (Code.region id ops true).wpIn (rnd ro) n P Q a w := by
  have hLO : ¬ LetsOut Q := fun ⟨_, _, h⟩ => hO _ _ h
  unfold evDag at h
  split at h
  · exact h.elim
  rename_i h0
  obtain ⟨h1, h2⟩ := h
  have key : ∀ (fuel c : Nat) (L : Array Bool) {ρ1 : List Loc} {a' : Act} {w' : World}, hasN css c = true → L = ⟨bitsN ops.size c⟩ → cF L.toList ≤ fuel → HpR B (ρ0 ++ ρ1) (Φ c).h w' → TmpsR (ρ0 ++ ρ1) (Φ c).t a' → a'.defers = a.defers → Bel B w w' → wpAny P .any ops Q fuel L a' w' := by
    intro fuel
    induction fuel with
    | zero =>
      intro c L ρ1 a' w' hc hL hf hH hT hd hb
      obtain ⟨cs, m1, m2⟩ := hasN_iff hc
      have hk := allL_mem (allL_mem h2 cs m1) c m2
      simp only [fN_eq, fA_eq, fO_eq] at hk
      rw [← hL] at hk
      have hr : Region.ready .any ops L = [] := by
        refine List.eq_nil_iff_forall_not_mem.2 fun i hi => ?_
        have hg := (mem_ready.1 hi).1
        have : L.toList[i]? = some false := by
          rw [Array.getD_eq_getD_getElem?] at hg
          rw [Array.getElem?_toList]
          cases hx : L[i]? with
          | none => rw [hx] at hg; cases hg
          | some b => rw [hx] at hg; exact congrArg some hg
        have := cF_set this
        omega
      rw [hr] at hk
      exact ⟨hr, hn _ _ ⟨ρ1, _, hs, hk, hT, hH, hd, hb⟩⟩
    | succ fuel ih =>
      intro c L ρ1 a' w' hc hL hf hH hT hd hb
      obtain ⟨cs, m1, m2⟩ := hasN_iff hc
      have hk := allL_mem (allL_mem h2 cs m1) c m2
      simp only [fN_eq, fA_eq, fO_eq] at hk
      rw [← hL] at hk
      refine ⟨fun hr => ?_, fun i hi => ?_⟩
      · rw [hr] at hk
        exact hn _ _ ⟨ρ1, _, hs, hk, hT, hH, hd, hb⟩
      · have hg : L.toList[i]? = some false := by
          have hg := (mem_ready.1 hi).1
          rw [Array.getD_eq_getD_getElem?] at hg
          rw [Array.getElem?_toList]
          cases hx : L[i]? with
          | none => rw [hx] at hg; cases hg
          | some b => rw [hx] at hg; exact congrArg some hg
        have hc1 := cF_set hg
        split at hk
        · rename_i hr
          rw [hr] at hi; cases hi
        have hi' := allOf_mem hk i hi
        split at hi'
        case h_2 => exact hi'.elim
        rename_i o ho
        split at hi'
        case h_2 => exact hi'.elim
        rename_i hch
        rw [Bool.and_eq_true, decide_eq_true_eq] at hch
        refine evOne_sound ho hC (by simp) hi' hH hT fun a2 w2 hl2 => ?_
        obtain ⟨ρ', st', hs', hk', hT', hH', hd', hb', _⟩ := hl2
        obtain ⟨ρ2, hH2, hT2⟩ := toDag_rel (ρ1 := ρ1 ++ ρ') hk' hl (by simpa using hH') (by simpa using hT')
        refine ih _ _ hch.1 ?_ ?_ hH2 hT2 (hd'.trans hd) (hb.trans (by simpa using hb'))
        · rw [hch.2]
        · rw [Array.toList_setIfInBounds]; omega
  have hd : Bel (bl w.heap.size) w w.drew := (Bel.refl _ _).drew
  obtain ⟨ρ2, hH2, hT2⟩ := toDag_rel h1 hl (hH.below hd) hT
  refine wpIn_region_any hm (wpAny_rnd hdf hLO _ _ _ _ (key ops.size 0 _ h0 ?_ ?_ hH2 hT2 rfl (hd.mono hH.base)))
  · rw [bitsN_zero, ← List.toArray_replicate]
  · have := cF_le (Array.replicate ops.size false).toList
    simpa using this

theorem mrg_sound {ro : Option Nat} {dp : Nat} {n0 : Nat} {b : Bool} {f : List Hint → (Ex → St → List Hint → Prop) → Prop} {c : Code} {hs : List Hint} {K : Ex → St → List Hint → Prop} {B : Gd} {ρ0 : List Loc} {a : Act} {w : World} (hl : ρ0.length = n0) (h : mrg n0 b f hs K)
    (hf : ∀ {hs : List Hint} {K : Ex → St → List Hint → Prop}, f hs K → c.wpIn (rnd ro) dp P (LeftE ρ0 B w a.defers K) a w) : c.wpIn (rnd ro) dp P (LeftE ρ0 B w a.defers K) a w := by
  unfold mrg at h
  split at h
  · rename_i c' α Φ I M l af hs'
    split at h
    case h_2 => exact hf h
    obtain ⟨h1, h2⟩ := h
    refine wpIn_mono (hf h1) fun e a' w' he => ?_
    obtain ⟨x, ρ1, st', hs2, B2, hex, hk, hT, hH, hd, hb⟩ := he
    cases x with
    | normal =>
      dsimp only at hk
      split at hk
      · rename_i T hwk
        obtain ⟨p, rfl, hI⟩ := hk
        obtain ⟨ρ2, hH2, hT2⟩ := weak_rel hwk hl hH hT
        exact ⟨.normal, ρ2, _, _, B2, hex, h2 p hI, hT2, hH2, hd, hb⟩
      · exact hk.elim
    | exit i => exact ⟨.exit i, ρ1, st', hs2, B2, hex, hk, hT, hH, hd, hb⟩
    | ret => exact ⟨.ret, ρ1, st', hs2, B2, hex, hk, hT, hH, hd, hb⟩
    | goto i => exact ⟨.goto i, ρ1, st', hs2, B2, hex, hk, hT, hH, hd, hb⟩
  · exact hf h

theorem weakR_rel {n0 : Nat} {rm : List Nat} {h T : Hp} (hw : weakR n0 rm h = some T) {B : Gd} {ρ0 ρ1 : List Loc} (hl : ρ0.length = n0) {w : World} (hH : HpR B (ρ0 ++ ρ1) h w) : ∃ ρ2, HpR B (ρ0 ++ ρ2) T w := by
  unfold weakR at hw
  dsimp only at hw
  split at hw
  · rename_i hd
    generalize hσ : seenR n0 h (seenR n0 h (List.range n0) []) (seenR n0 h (List.range n0) []) = σ at hw hd
    have hnd := of_decide_eq_true hd
    obtain ⟨ρ2, h1, _⟩ := sub_rel (s := ⟨[], h⟩) (s' := ⟨[], T⟩) (σ := List.range n0 ++ σ) (n0 := n0) ⟨hnd, by rw [List.take_left' (by simp)], trivial, weakH_sub hw⟩ hl (a := { tmps := #[], defers := [] }) hH ⟨rfl, fun i x hx => by simp at hx⟩
    exact ⟨ρ2, h1⟩
  · cases hw

theorem zip_vals {α : Type} {E : α → AV} : ∀ {xs : List α} {us : List Value}, AVRs [] (xs.map E) us → ∃ zs : List { p : α × Value // AVR [] (E p.1) p.2 }, zs.map (fun z => z.1.1) = xs ∧ zs.map (fun z => z.1.2) = us
  | [], _, h => by cases h; exact ⟨[], rfl, rfl⟩
  | x :: xs, _, h => by
    cases h with
    | cons h0 h1 =>
      obtain ⟨zs, e1, e2⟩ := zip_vals h1
      exact ⟨⟨(x, _), h0⟩ :: zs, by simp [e1], by simp [e2]⟩

/-- What is walked of a piece of code holds of it. -/
def SndA (P : Program) (C : Call) (m : Md) (c d : Code) : Prop :=
  ∀ {ro : Option Nat} {dp n0 : Nat} {B : Gd} {ρ0 ρ1 : List Loc} {st : St} {hs : List Hint} {K : Ex → St → List Hint → Prop} {a : Act} {w : World},
    (ro = none ∨ noDef c = true) → ρ0.length = n0 → ev C P n0 c m st hs K → HpR B (ρ0 ++ ρ1) st.h w → TmpsR (ρ0 ++ ρ1) st.t a → d.wpIn (rnd ro) dp P (LeftE ρ0 B w a.defers K) a w

/-- Behind a label. -/
def SndB (P : Program) (C : Call) (c : Code) : Prop := ∀ l d, findLabel c l = some d → SndA P C (.beh l) c d

/-- Ahead of a label, and then behind it. -/
def SndT (P : Program) (C : Call) (c : Code) : Prop :=
  ∀ {l : Nat} {M0 : Modes} {ro : Option Nat} {dp n0 : Nat} {B : Gd} {ρ0 ρ1 : List Loc} {st : St} {hs : List Hint} {K K2 : Ex → St → List Hint → Prop} {a : Act} {w : World},
    (ro = none ∨ noDef c = true) → ρ0.length = n0 → ev C P n0 c (.til l) st hs K → HpR B (ρ0 ++ ρ1) st.h w → TmpsR (ρ0 ++ ρ1) st.t a →
    (∀ e s hs, e ≠ .normal → K e s hs → K2 e s hs) → (∀ s hs, K .normal s hs → ∃ T hs', weakSt n0 M0 s = some T ∧ ev C P n0 c (.beh l) T hs' K2) →
    c.wpIn (rnd ro) dp P (LeftE ρ0 B w a.defers K2) a w

theorem onSpine_eq : ∀ (c : Code) (l : Nat), onSpine c l = (findLabel c l).isSome
  | .seq a b, l => by
    unfold onSpine findLabel
    rw [onSpine_eq a l, onSpine_eq b l]
    cases findLabel a l <;> rfl
  | .label l', l => by
    unfold onSpine findLabel
    cases l' == l <;> rfl
  | .skip, _ | .region .., _ | .cond .., _ | .block .., _ | .loop _, _ | .rangeFunc .., _ | .exit _, _ | .scope _, _ | .goto _, _ | .ret, _ | .refuse _, _ => rfl

theorem beh_some {C : Call} {n0 : Nat} : ∀ {c : Code} {l : Nat} {st : St} {hs : List Hint} {K : Ex → St → List Hint → Prop}, ev C P n0 c (.beh l) st hs K → onSpine c l = true
  | .seq a b, l, st, hs, K, h => by
    unfold ev at h
    dsimp only at h
    unfold onSpine
    split at h
    · rename_i h1; rw [h1]; rfl
    · rename_i h1; rw [beh_some h, Bool.or_true]
  | .label l', l, st, hs, K, h => by
    unfold ev at h
    dsimp only at h
    unfold onSpine
    split at h
    · rename_i h1; rw [of_decide_eq_true h1]; exact beq_self_eq_true _
    · exact h.elim
  | .skip, _, _, _, _, h | .region .., _, _, _, _, h | .cond .., _, _, _, _, h | .block .., _, _, _, _, h | .loop _, _, _, _, _, h | .rangeFunc .., _, _, _, _, h | .exit _, _, _, _, _, h | .scope _, _, _, _, _, h | .goto _, _, _, _, _, h | .ret, _, _, _, _, h | .refuse _, _, _, _, _, h => False.elim h

theorem snd_plain {C : Call} {c : Code} (hb : ∀ l, findLabel c l = none) (ht : ∀ {n0 l st hs K}, ¬ ev C P n0 c (.til l) st hs K) (h : SndA P C .all c c) : SndA P C .all c c ∧ SndB P C c ∧ SndT P C c :=
  ⟨h, fun l d hd => (by rw [hb] at hd; cases hd), fun _ _ h => (ht h).elim⟩

/-- One piece of code behind another. -/
theorem seq_gen {ro : Option Nat} {dp : Nat} {B : Gd} {ρ0 : List Loc} {K' K : Ex → St → List Hint → Prop} {a : Act} {w : World} {d y : Code} (hw : d.wpIn (rnd ro) dp P (LeftE ρ0 B w a.defers K') a w)
    (hn : ∀ {B2 : Gd} {ρ1 : List Loc} {st : St} {hs : List Hint} {a' : Act} {w' : World}, K' .normal st hs → HpR B2 (ρ0 ++ ρ1) st.h w' → TmpsR (ρ0 ++ ρ1) st.t a' → y.wpIn (rnd ro) dp P (LeftE ρ0 B2 w' a'.defers K) a' w')
    (ho : ∀ e s hs, e ≠ .normal → K' e s hs → K e s hs) : (Code.seq d y).wpIn (rnd ro) dp P (LeftE ρ0 B w a.defers K) a w := by
  refine wpIn_seq (wpIn_mono hw fun e a' w' he => ?_)
  obtain ⟨x', ρ1', st', hs', B2, hex, hk, hT', hH', hd, hb⟩ := he
  cases e with
  | normal =>
    cases x' with
    | normal => exact wpIn_mono (hn hk hH' hT') fun e2 a2 w2 h2 => h2.after hd hb
    | exit _ => exact hex.elim
    | ret => exact hex.elim
    | goto _ => exact hex.elim
  | exit i => cases x' with
    | exit j => exact ⟨.exit j, ρ1', st', hs', B2, hex, ho _ _ _ (by simp) hk, hT', hH', hd, hb⟩
    | normal => exact hex.elim
    | ret => exact hex.elim
    | goto _ => exact hex.elim
  | ret => cases x' with
    | ret => exact ⟨.ret, ρ1', st', hs', B2, hex, ho _ _ _ (by simp) hk, hT', hH', hd, hb⟩
    | normal => exact hex.elim
    | exit _ => exact hex.elim
    | goto _ => exact hex.elim
  | goto l => cases x' with
    | goto j => exact ⟨.goto j, ρ1', st', hs', B2, hex, ho _ _ _ (by simp) hk, hT', hH', hd, hb⟩
    | normal => exact hex.elim
    | exit _ => exact hex.elim
    | ret => exact hex.elim
  | panic c => cases x' <;> exact hex.elim
  | outgrown => cases x' <;> exact hex.elim

-- INLBEGIN
/-- More is guarded: what came later. -/
theorem HpR.more {B G : Gd} {ρ : List Loc} {h : Hp} {w w' : World} (hH : HpR B ρ h w) (hb : Bel (bl w.heap.size) w w') (hG : ∀ b, G b → w.heap.size ≤ b ∧ b < w'.heap.size) : HpR (orG B G) ρ h w' := by
  have h1 := hH.below hb
  obtain ⟨o, hO⟩ := hH.objs
  have hO2 := hO.change hb.size fun _ _ _ hk hl b hb' => hb.block _ (hO.lt hk hl b hb')
  refine ⟨h1.len, fun b hb => hb.elim (h1.base b) fun hg => (hG b hg).2, fun r k l hk hl => ?_, h1.sep, h1.glob.mono (le_orG _ _), o, fun r k l hk hl => ?_, hO2.row, hO2.obj, hO2.here⟩
  · have hlt := (hH.blk r k l hk hl).lt
    obtain ⟨e, cur, ty, fr, g1, g2, g3⟩ := h1.blk r k l hk hl
    refine ⟨e, cur, ty, fr, g1, g2, fun hw => ?_⟩
    obtain ⟨q1, q2, q3, q4, q5, q6, q7⟩ := g3 hw
    exact ⟨q1, q2, q3, q4, q5, fun hB => hB.elim q6 fun hg => by have := (hG _ hg).1; omega, q7⟩
  · obtain ⟨a1, a2, a3, a4⟩ := hO2.is r k l hk hl
    exact ⟨a1, a2, fun hw b hb hB => hB.elim (a3 hw b hb) fun hg => by have := (hG _ hg).1; have := hO.lt hk hl b hb; omega, a4⟩

theorem tmps_start {ρ : List Loc} {args : List AV} {vs : List Value} {m : Nat} (hv : AVRs ρ args vs) (hle : args.length ≤ m) : TmpsR ρ (args ++ List.replicate (m - args.length) (.lit undef)) { tmps := vs.toArray ++ Array.replicate (m - vs.toArray.size) undef, defers := [] } := by
  have hl := hv.length
  refine ⟨by simp [hl], fun i x hx => ?_⟩
  by_cases hi : i < args.length
  · rw [List.getElem?_append_left hi] at hx
    obtain ⟨v, hv', hr⟩ := hv.get hx
    exact ⟨v, by simp only; rw [Array.getElem?_append_left (by simpa [← hl] using hi)]; simpa using hv', hr⟩
  · have hlt := (List.getElem?_eq_some_iff.1 hx).1
    rw [List.getElem?_append_right (by omega)] at hx
    rw [List.getElem?_replicate] at hx
    split at hx
    · rename_i h2
      cases hx
      refine ⟨undef, ?_, .lit _⟩
      simp only
      rw [Array.getElem?_append_right (by simp; omega), Array.getElem?_replicate, if_pos (by simp; omega)]
    · simp at hx

theorem objsWr_obj {h : Hp} (hw : objsWr h = true) {r : Nat} {k : Blk} (hk : h.obj r = some k) : k.wr = true := by
  obtain ⟨h1, h2⟩ := get_obj.1 hk
  have := List.all_eq_true.1 hw _ (List.mem_of_getElem? h1)
  obtain ⟨a, b, c, d, e⟩ := k
  simp only at h2
  subst h2
  exact this

/-- A block that is no cells turns: no row, and no object, lies there. -/
theorem HpR.book {B : Gd} {ρ : List Loc} {h : Hp} {w : World} (hH : HpR B ρ h w) {l : Nat} (hB : B l) {o : Obj} (o' : Obj) (hl : w.heap[l]? = some o) (ho : o.isCells = false) (hw : objsWr h = true) : HpR B ρ h (w.putObj l o') := by
  have hg := grownBy_putObj' w l o'
  have ne : ∀ {b}, b < w.heap.size → b ≠ l → (w.putObj l o').heap[b]? = w.heap[b]? := fun hb h => hg.block _ hb fun e => h (Option.some.inj e)
  obtain ⟨ob, hO⟩ := hH.objs
  refine ⟨hH.len, hH.base.trans (bl_mono hg.size), fun r k lc hk ha => (hH.blk r k lc hk ha).same (ne (hH.blk r k lc hk ha).lt fun e => ?_), hH.sep, fun p hp => ⟨(hH.glob p hp).1, ?_⟩, ob, hO.change hg.size fun r k lc hk ha b hb => ne (hO.lt hk ha b hb) fun e => ?_⟩
  · obtain ⟨cur, ty, fr, h1, _⟩ := (hH.blk r k lc hk ha).row
    rw [e, hl] at h1
    cases h1; cases ho
  · obtain ⟨h0, ty, fr, h1⟩ := hH.glob p hp
    refine ⟨ty, fr, (ne (hH.base _ h0) fun e => ?_).trans h1⟩
    rw [e, hl] at h1
    cases h1; cases ho
  · exact (hO.is r k lc hk ha).2.2.1 (objsWr_obj hw hk) b hb (e ▸ hB)

theorem putTs_rel {ρ : List Loc} : ∀ {ps : List Nat} {ys : List AV} {vs : List Value} {t : List AV} {ts : Array Value} {ds : List Deferred}, ys.length = ps.length → AVRs ρ ys vs → TmpsR ρ t { tmps := ts, defers := ds } →
    TmpsR ρ (putTs t (ps.zip ys)) { tmps := (ps.zip vs).foldl (fun t (p, v) => t.setIfInBounds p v) ts, defers := ds }
  | [], ys, vs, t, ts, ds, _, _, h => h
  | p :: ps, [], vs, t, ts, ds, hl, _, _ => by simp at hl
  | p :: ps, y :: ys, v :: vs, t, ts, ds, hl, .cons h0 h1, h => putTs_rel (ps := ps) (ys := ys) (vs := vs) (by simpa using hl) h1 (h.put p h0)

structure RgI (B : Gd) (ds : List Deferred) (w0 : World) (ρ : List Loc) (st : St) (a : Act) (w : World) : Prop where
  hp : HpR B ρ st.h w
  tm : TmpsR ρ st.t a
  bel : Bel B w0 w
  df : a.defers = ds

/-- The loop's record, when it was left. -/
def doneL (r : Loop) (c : Code) : Loop := { r with state := .done, pending := some c }

def exCode : Ex → Code
  | .exit id => .exit id
  | _ => .ret

def Ex.out : Ex → Prop
  | .exit _ => True
  | .ret => True
  | _ => False

/-- The world from which on the guarded blocks stay: where the loop began, or where it was left. -/
def BaseI (B : Gd) (l : Nat) (r : Loop) (w0 : World) : Option Ex → World → Prop
  | none, w1 => w1 = w0
  | some e, w1 => e.out ∧ w1.heap[l]? = some (.loop (doneL r (exCode e))) ∧ Bel (fun j => B j ∧ j ≠ l) w0 w1

def LeftI (ρ0 : List Loc) (B : Gd) (ds : List Deferred) (l : Nat) (r : Loop) (w0 : World) (K : Ex → St → Option Ex → List Hint → Prop) (e : Exit) (a' : Act) (w' : World) : Prop :=
  ∃ x ρ1 st' m hs' w1, ExR e x ∧ K x st' m hs' ∧ BaseI B l r w0 m w1 ∧ RgI B ds w1 (ρ0 ++ ρ1) st' a' w'

/-- What a round comes to. -/
def RdOK (P : Program) (l : Nat) (ρ0 : List Loc) (B : Gd) (r : Loop) (Rd : Rnd) : Prop :=
  ∀ {m : Nat} {ρ1 : List Loc} {ys : List AV} {vs : List Value} {h : Hp} {hs : List Hint} {K : Option Ex → Hp → List Hint → Prop} {w : World}, Rd ys h hs K → HpR B (ρ0 ++ ρ1) h w → AVRs (ρ0 ++ ρ1) ys vs → w.heap[l]? = some (.loop r) →
    YieldAt (rnd none) m P l vs.toArray w fun e W' => ∃ m, e = .returned (.bool (goOn m)) ∧ ∃ ρ2 h' hs', K m h' hs' ∧ HpR B (ρ0 ++ ρ2) h' W' ∧ (∃ ρ3, ρ2 = ρ1 ++ ρ3) ∧ (match m with
      | none => Bel B w W'
      | some e => BaseI B l r w (some e) W')

theorem evOpsI_sound {C : Call} (hC : COK P false C) {n l : Nat} {ρ0 : List Loc} {B : Gd} {r : Loop} {Rd : Rnd} (hRd : RdOK P l ρ0 B r Rd) (hBl : B l) {ds : List Deferred} {w0 : World} (hbk : w0.heap[l]? = some (.loop r)) {ops : Array Oper}
    (hdf : (ops.all fun o => !defers o.op) = true) {Q : Exit → Act → World → Prop} (hO : ¬ LetsOut Q) : ∀ (rest : List Oper) (i : Nat), ops.toList.drop i = rest →
    ∀ {ρ1 : List Loc} {st : St} {m : Option Ex} {hs : List Hint} {K : St → Option Ex → List Hint → Prop} {a : Act} {w w1 : World}, evOpsI C P l Rd ops.toList rest st m hs K → BaseI B l r w0 m w1 → RgI B ds w1 (ρ0 ++ ρ1) st a w →
    (∀ a' w' ρ1 st m hs w1, K st m hs → BaseI B l r w0 m w1 → RgI B ds w1 (ρ0 ++ ρ1) st a' w' → Q .normal a' w') → wpOpsIn (rnd none) n P ops Q (List.range' i rest.length) a w
  | [], i, hd, ρ1, st, m, hs, K, a, w, w1, h, hB, hR, hn => by
    simp only [List.length_nil, List.range'_zero, wpOpsIn]
    exact hn _ _ _ _ _ _ _ h hB hR
  | o :: rest, i, hd, ρ1, st, m, hs, K, a, w, w1, h, hB, hR, hn => by
    have ho : ops[i]? = some o := by
      have : (ops.toList.drop i)[0]? = some o := by rw [hd]; rfl
      rw [List.getElem?_drop] at this
      simpa using this
    have hrest : ops.toList.drop (i + 1) = rest := by rw [← List.tail_drop, hd]; rfl
    rw [List.length_cons, List.range'_succ, wpOpsIn_cons]
    have plain : ∀ {hs : List Hint}, (evOne C P ops.toList o st hs fun st hs => evOpsI C P l Rd ops.toList rest st m hs K) → wpOpIn (rnd none) n P ops Q i (wpOpsIn (rnd none) n P ops Q (List.range' (i + 1) rest.length)) a w := by
      intro hs h
      refine wpOp_rnd (.inl rfl) hO (K := wpOpsIn (rnd none) n P ops Q (List.range' (i + 1) rest.length)) (fun _ _ h => h) (evOne_sound ho hC (by simp) h hR.hp hR.tm fun a' w' hl => ?_)
      obtain ⟨ρ', st', hs', hk, hT', hH', hd', hb, _⟩ := hl
      rw [List.append_assoc] at hT' hH'
      exact evOpsI_sound hC hRd hBl hbk hdf hO rest (i + 1) hrest hk hB ⟨hH', hT', hR.bel.trans hb, hd'.trans hR.df⟩ hn
    unfold evOpsI at h
    split at h
    · rename_i t args tys hop
      obtain ⟨b, st', hs', hk, hw, hT', hh⟩ := wanted_sound h hR.tm
      cases b with
      | false =>
        simp only [fSt_eq] at hk
        unfold wpOpIn
        simp only [ho, hw]
        refine ⟨fun _ _ => trivial, evOpsI_sound hC hRd hBl hbk hdf hO rest (i + 1) hrest hk hB ⟨?_, hT'.putSt o.dst (.lit _), hR.bel, by rw [put_defers]; exact hR.df⟩ hn⟩
        rw [St.put_h, hh]; exact hR.hp
      | true =>
        simp only [fSt_eq] at hk
        have hfv := hT'.op (.tmp t)
        have hav := hT'.ops args.toList
        generalize hfe : a.eval (.tmp t) = fv at hfv
        have hhp : HpR B (ρ0 ++ ρ1) st'.h w := by rw [hh]; exact hR.hp
        split at hk
        · rename_i l' hf
          obtain ⟨rfl, hk⟩ := hk
          have hB : w0 = w1 := Eq.symm hB
          subst hB
          rw [hf] at hfv
          cases hfv with
          | func hn1 hn2 =>
          cases hn1; cases hn2
          obtain ⟨fn, tmps, asg, body, hyr, hrd⟩ := hRd (m := n - 1) hk hhp hav ((hR.bel.block _ hBl).trans hbk)
          have hex : (execOp a.eval o).run P w = .ok (.round l' fn tmps asg body) w := by
            rw [← hyr]
            obtain ⟨dst, op, type, pos, after, guard⟩ := o
            dsimp only at hop
            subst hop
            obtain ⟨al⟩ := args
            simp [execOp, resolve, hfe, Deferred.ofValue, invoke]
          unfold wpOpIn
          simp only [ho, hw, if_true]
          refine ⟨fun _ _ => trivial, ?_⟩
          show o.uponIn (rnd none) n P a _ Q ((o.semAt none a.eval).run P w)
          rw [sem_rnd (.inl rfl), hex, Oper.uponIn_round]
          refine ⟨fun e => absurd e noDepth, hrd.mono ?_⟩
          rintro e W' ⟨m, rfl, ρ2, h', hs2, hk2, hH2, ⟨ρ3, rfl⟩, hb2⟩
          have hT2 : TmpsR (ρ0 ++ (ρ1 ++ ρ3)) ((({ st' with h := h' } : St).put o.dst (.lit (.bool (goOn m)))).t) (a.put o.dst (.bool (goOn m))) := TmpsR.putSt (st := { st' with h := h' }) (by rw [← List.append_assoc]; exact hT'.app ρ3) o.dst (.lit _)
          have hH3 : HpR B (ρ0 ++ (ρ1 ++ ρ3)) (({ st' with h := h' } : St).put o.dst (.lit (.bool (goOn m)))).h W' := by rw [St.put_h]; exact hH2
          have hdf' : (a.put o.dst (.bool (goOn m))).defers = ds := by rw [put_defers]; exact hR.df
          cases m with
          | none => exact evOpsI_sound hC hRd hBl hbk hdf hO rest (i + 1) hrest (ρ1 := ρ1 ++ ρ3) hk2 (w1 := w0) rfl ⟨hH3, hT2, hR.bel.trans hb2, hdf'⟩ hn
          | some e => exact evOpsI_sound hC hRd hBl hbk hdf hO rest (i + 1) hrest (ρ1 := ρ1 ++ ρ3) hk2 (w1 := W') ⟨hb2.1, hb2.2.1, (hR.bel.mono fun _ h => h.1).trans hb2.2.2⟩ ⟨hH3, hT2, Bel.refl _ _, hdf'⟩ hn
        · exact hk.elim
    · exact plain h

theorem evItI_sound {C : Call} (hC : COK P false C) (hm : P.follows .mixedOrders = true) {n l n0 : Nat} {ρ0 : List Loc} {B : Gd} {r : Loop} {Rd : Rnd} (hRd : RdOK P l ρ0 B r Rd) (hBl : B l) {ds : List Deferred} {w0 : World} (hbk : w0.heap[l]? = some (.loop r)) (hn0 : ρ0.length = n0) :
    ∀ (code : Code), noDef code = true → ∀ {ρ1 : List Loc} {st : St} {m : Option Ex} {hs : List Hint} {K : Ex → St → Option Ex → List Hint → Prop} {a : Act} {w w1 : World},
    evItI C P l n0 Rd code st m hs K → BaseI B l r w0 m w1 → RgI B ds w1 (ρ0 ++ ρ1) st a w → code.wpIn (rnd none) n P (LeftI ρ0 B ds l r w0 K) a w := by
  have nopanic : ∀ {K : Ex → St → Option Ex → List Hint → Prop} c a w, ¬ LeftI ρ0 B ds l r w0 K (.panic c) a w := by
    rintro K c a w ⟨x, _, _, _, _, _, hx, _⟩; cases x <;> exact hx
  have noout : ∀ {K : Ex → St → Option Ex → List Hint → Prop} a w, ¬ LeftI ρ0 B ds l r w0 K .outgrown a w := by
    rintro K a w ⟨x, _, _, _, _, _, hx, _⟩; cases x <;> exact hx
  intro code
  induction code with
  | skip => intro _ ρ1 st m hs K a w w1 h hB hR; exact wpIn_skip ⟨.normal, ρ1, st, m, hs, w1, trivial, h, hB, hR⟩
  | ret => intro _ ρ1 st m hs K a w w1 h hB hR; exact wpIn_ret ⟨.ret, ρ1, st, m, hs, w1, trivial, h, hB, hR⟩
  | exit id => intro _ ρ1 st m hs K a w w1 h hB hR; exact wpIn_exit ⟨.exit id, ρ1, st, m, hs, w1, rfl, h, hB, hR⟩
  | region id ops draw =>
    intro hnd ρ1 st m hs K a w w1 h hB hR
    have hdf : (ops.all fun o => !defers o.op) = true := hnd
    unfold evItI at h
    split at h
    · obtain ⟨hs, h⟩ := splits_iff h
      refine evRegion_sound (ro := none) (B := B) hC hm (.inl rfl) h hR.hp hR.tm (fun c a w hx => nopanic c a w hx) (fun a w hx => noout a w hx) fun a' w' hx => ?_
      obtain ⟨ρ', st', hs', k, t, hh, d, b, _⟩ := hx
      rw [List.append_assoc] at t hh
      exact ⟨.normal, ρ1 ++ ρ', _, m, hs', w1, trivial, k, hB, hh, t, hR.bel.trans b, d.trans hR.df⟩
    · obtain ⟨hs, h⟩ := splits_iff h
      refine wpIn_region ?_
      rw [List.range_eq_range']
      have hO : ¬ LetsOut (LeftI ρ0 B ds l r w0 K) := fun ⟨_, _, hx⟩ => noout _ _ hx
      have := evOpsI_sound (Q := LeftI ρ0 B ds l r w0 K) (n := n) hC hRd hBl hbk hdf hO ops.toList 0 (by simp) h hB hR fun a' w' ρ2 st' m' hs' w1' hk hB' hR' => ⟨.normal, ρ2, _, m', hs', w1', trivial, hk, hB', hR'⟩
      simpa using this
  | seq x y ihx ihy =>
    intro hnd ρ1 st m hs K a w w1 h hB hR
    have hnd : noDef x = true ∧ noDef y = true := Bool.and_eq_true _ _ ▸ hnd
    refine wpIn_seq (wpIn_mono (ihx hnd.1 h hB hR) fun e a' w' he => ?_)
    obtain ⟨x', ρ1', st', m', hs', w1', hex, hk, hB', hR'⟩ := he
    cases e with
    | normal => cases x' with
      | normal => exact ihy hnd.2 hk hB' hR'
      | exit _ => exact hex.elim
      | ret => exact hex.elim
      | goto _ => exact hex.elim
    | exit i => cases x' with
      | exit j => exact ⟨.exit j, ρ1', st', m', hs', w1', hex, hk, hB', hR'⟩
      | normal => exact hex.elim
      | ret => exact hex.elim
      | goto _ => exact hex.elim
    | ret => cases x' with
      | ret => exact ⟨.ret, ρ1', st', m', hs', w1', hex, hk, hB', hR'⟩
      | normal => exact hex.elim
      | exit _ => exact hex.elim
      | goto _ => exact hex.elim
    | goto l => cases x' with
      | goto j => exact ⟨.goto j, ρ1', st', m', hs', w1', hex, hk, hB', hR'⟩
      | normal => exact hex.elim
      | exit _ => exact hex.elim
      | ret => exact hex.elim
    | panic c => cases x' <;> exact hex.elim
    | outgrown => cases x' <;> exact hex.elim
  | cond cd x y ihx ihy =>
    intro hnd ρ1 st m hs K a w w1 h hB hR
    have hnd : noDef x = true ∧ noDef y = true := Bool.and_eq_true _ _ ▸ hnd
    obtain ⟨sb, p, hs', hb, hk⟩ := test_iff h
    have hc := asBool_rel (hR.tm.op cd) hb
    cases p with
    | true => exact wpIn_cond_true hc (ihx hnd.1 hk hB hR)
    | false => exact wpIn_cond_false hc (ihy hnd.2 hk hB hR)
  | block id body ih =>
    intro hnd ρ1 st m hs K a w w1 h hB hR
    refine wpIn_block (wpIn_mono (ih hnd h hB hR) fun e a' w' he => ?_)
    obtain ⟨x', ρ1', st', m', hs', w1', hex, hk, hB', hR'⟩ := he
    cases e with
    | normal => cases x' with
      | normal => exact ⟨.normal, ρ1', st', m', hs', w1', hex, hk, hB', hR'⟩
      | exit _ => exact hex.elim
      | ret => exact hex.elim
      | goto _ => exact hex.elim
    | exit i => cases x' with
      | exit j =>
        have hij : i = j := hex
        subst hij
        dsimp only at hk
        show (if i = id then _ else _)
        split at hk
        · rename_i hd'; rw [if_pos (of_decide_eq_true hd')]; exact ⟨.normal, ρ1', st', m', hs', w1', trivial, hk, hB', hR'⟩
        · rename_i hd'; rw [if_neg (of_decide_eq_false hd')]; exact ⟨.exit i, ρ1', st', m', hs', w1', rfl, hk, hB', hR'⟩
      | normal => exact hex.elim
      | ret => exact hex.elim
      | goto _ => exact hex.elim
    | ret => cases x' with
      | ret => exact ⟨.ret, ρ1', st', m', hs', w1', hex, hk, hB', hR'⟩
      | normal => exact hex.elim
      | exit _ => exact hex.elim
      | goto _ => exact hex.elim
    | goto l => cases x' with
      | goto j => exact ⟨.goto j, ρ1', st', m', hs', w1', hex, hk, hB', hR'⟩
      | normal => exact hex.elim
      | exit _ => exact hex.elim
      | ret => exact hex.elim
    | panic c => cases x' <;> exact hex.elim
    | outgrown => cases x' <;> exact hex.elim
  | loop body ih =>
    intro hnd ρ1 st m hs K a w w1 h hB hR
    unfold evItI at h
    have inv : ∀ {α : Type} {p0 : α} {Φ : α → St} {I : α → Prop} {μ : α → Nat} {M0 M M' : Modes} {af hs' : α → List Hint} {hs : List Hint} {N : α → St → Prop}, (∀ p T, N p T → ∃ p', T = Φ p' ∧ I p' ∧ μ p' < μ p) →
        (match weakSt n0 M0 st with | some T => T = Φ p0 ∧ I p0 | none => False) → (∀ p, I p → evItI C P l n0 Rd body (Φ p) none (hs' p) (roundEndI n0 M M' (N p) K (af p ++ hs))) → m = none → (Code.loop body).wpIn (rnd none) n P (LeftI ρ0 B ds l r w0 K) a w := by
      intro α p0 Φ I μ M0 M M' af hs' hs N hN h0 hround hm0
      subst hm0
      have hB : w0 = w1 := Eq.symm hB
      subst hB
      split at h0
      · rename_i T0 hsub
        obtain ⟨rfl, hI0⟩ := h0
        obtain ⟨ρ2, hH2, hT2⟩ := weak_rel hsub hn0 hR.hp hR.tm
        refine wpIn_loop_rounds (μ p0 + 1) ?_
        have key : ∀ (m : Nat) {ρ1 : List Loc} {p : α} {a1 : Act} {w2 : World}, μ p < m → I p → RgI B ds w0 (ρ0 ++ ρ1) (Φ p) a1 w2 → Code.roundsIn (rnd none) n P body (LeftI ρ0 B ds l r w0 K) m a1 w2 := by
          intro m
          induction m with
          | zero => intro ρ1 p a1 w2 h; omega
          | succ m ihm =>
            intro ρ1 p a1 w2 hμ hI hR1
            rw [roundsIn_succ]
            refine wpIn_mono (ih hnd (hround p hI) (w1 := w0) rfl hR1) fun e a' w' he => ?_
            obtain ⟨x', ρ1', st', m', hs'', w1', hex, hk, hB', hR'⟩ := he
            have other : ∀ x', x' ≠ .normal → roundEndI n0 M M' (N p) K (af p ++ hs) x' st' m' hs'' → ∃ T, weakSt n0 (endM M' hs'') st' = some T ∧ K x' T m' (af p ++ hs) := by
              intro x' hx hr
              unfold roundEndI at hr
              split at hr
              · exact absurd rfl hx
              unfold roundEnd at hr
              split at hr
              · exact absurd rfl hx
              · split at hr
                · exact ⟨_, by assumption, hr⟩
                · exact hr.elim
            cases e with
            | normal => cases x' with
              | normal =>
                unfold roundEndI at hk
                cases m' with
                | some e => exact hk.elim
                | none =>
                have hB' : w0 = w1' := Eq.symm hB'
                subst hB'
                unfold roundEnd at hk
                dsimp only at hk
                split at hk
                · rename_i T hwk
                  obtain ⟨p', rfl, hI', hlt⟩ := hN _ _ hk
                  obtain ⟨ρ3, hH3, hT3⟩ := weak_rel hwk hn0 hR'.hp hR'.tm
                  exact ihm (by omega) hI' ⟨hH3, hT3, hR'.bel, hR'.df⟩
                · exact hk.elim
              | exit _ => exact hex.elim
              | ret => exact hex.elim
              | goto _ => exact hex.elim
            | exit i => cases x' with
              | exit j =>
                obtain ⟨T, hwk, hk⟩ := other _ (by simp) hk
                obtain ⟨ρ3, hH3, hT3⟩ := weak_rel hwk hn0 hR'.hp hR'.tm
                exact ⟨.exit j, ρ3, T, m', _, w1', hex, hk, hB', hH3, hT3, hR'.bel, hR'.df⟩
              | normal => exact hex.elim
              | ret => exact hex.elim
              | goto _ => exact hex.elim
            | ret => cases x' with
              | ret =>
                obtain ⟨T, hwk, hk⟩ := other _ (by simp) hk
                obtain ⟨ρ3, hH3, hT3⟩ := weak_rel hwk hn0 hR'.hp hR'.tm
                exact ⟨.ret, ρ3, T, m', _, w1', hex, hk, hB', hH3, hT3, hR'.bel, hR'.df⟩
              | normal => exact hex.elim
              | exit _ => exact hex.elim
              | goto _ => exact hex.elim
            | goto l => cases x' with
              | goto j =>
                obtain ⟨T, hwk, hk⟩ := other _ (by simp) hk
                obtain ⟨ρ3, hH3, hT3⟩ := weak_rel hwk hn0 hR'.hp hR'.tm
                exact ⟨.goto j, ρ3, T, m', _, w1', hex, hk, hB', hH3, hT3, hR'.bel, hR'.df⟩
              | normal => exact hex.elim
              | exit _ => exact hex.elim
              | ret => exact hex.elim
            | panic c => cases x' <;> exact hex.elim
            | outgrown => cases x' <;> exact hex.elim
        exact key _ (Nat.lt_succ_self _) hI0 ⟨hH2, hT2, hR.bel, hR.df⟩
      · exact h0.elim
    split at h
    · exact inv (fun _ _ h => h) h.1 h.2 rfl
    · rename_i α β p0 Φ Ψ I J μ ν M0 M M' af ag hs' gs' hs
      obtain ⟨h0, h1, h2⟩ := h
      refine inv (α := α ⊕ β) (p0 := .inl p0) (M0 := M0) (M := M) (M' := M') (Φ := Sum.elim Φ Ψ) (I := Sum.elim I J) (μ := Sum.elim μ ν) (af := Sum.elim af ag) (hs' := Sum.elim hs' gs') (hs := hs)
        (N := Sum.elim (fun p T => (∃ p', T = Φ p' ∧ I p' ∧ μ p' < μ p) ∨ ∃ q, T = Ψ q ∧ J q ∧ ν q < μ p) fun q T => (∃ p, T = Φ p ∧ I p ∧ μ p < ν q) ∨ ∃ q', T = Ψ q' ∧ J q' ∧ ν q' < ν q) (fun x T hT => ?_) h0 (fun x hx => ?_) rfl
      · cases x with
        | inl p => exact hT.elim (fun ⟨p', h⟩ => ⟨.inl p', h⟩) fun ⟨q, h⟩ => ⟨.inr q, h⟩
        | inr q => exact hT.elim (fun ⟨p', h⟩ => ⟨.inl p', h⟩) fun ⟨q, h⟩ => ⟨.inr q, h⟩
      · cases x with
        | inl p => exact h1 p hx
        | inr q => exact h2 q hx
    · exact h.elim
  | _ => intro _ ρ1 st m hs K a w w1 h; exact h.elim

/-- A range over a function: what its iterator's call comes to. -/
theorem wpIn_inl {g : Operand} {ps : Array Tmp} {asg body : Code} {Q : Exit → Act → World → Prop} {a : Act} {w : World} {n : Nat} {gf : Nat} {lb : Array Value} (hg : a.eval g = .func (.func gf) #[] lb)
    (eg : ∀ args w, (callFunc gf args).run P w = .ok (.enter gf args) w)
    (h : ∀ (fn : FuncId) (r : Loop), r = { state := .ready, pending := none, fn, tmps := a.tmps, params := ps, assign := asg, body, defers := w.heap.size } → CallsIn (rnd none) (n - 1) P gf (#[.func (.yield (w.heap.size + 1)) #[] #[]] ++ lb) ((w.alloc (.deferred (some []))).alloc (.loop r)) fun e V =>
      (∃ v, e = .returned v) ∧ ((V.heap[w.heap.size + 1]? = some (.loop r) ∧ Q .normal { a with defers := { target := .collected w.heap.size, args := #[] } :: a.defers } (V.putObj (w.heap.size + 1) (.loop { r with state := .exhausted }))) ∨
        ∃ c, V.heap[w.heap.size + 1]? = some (.loop (doneL r c)) ∧ c.wpIn (rnd none) n P Q { a with defers := { target := .collected w.heap.size, args := #[] } :: a.defers } (V.putObj (w.heap.size + 1) (.loop { doneL r c with state := .exhausted })))) :
    (Code.rangeFunc g ps asg body).wpIn (rnd none) n P Q a w := by
  refine wpIn_rangeFunc ?_
  intro fn hfn
  let U : World := (w.alloc (.deferred (some []))).alloc (.loop { state := .ready, pending := none, fn, tmps := a.tmps, params := ps, assign := asg, body, defers := w.heap.size })
  refine ⟨w.heap.size + 1, [{ target := .collected w.heap.size, args := #[] }], U, { target := .fn (.func gf) lb, args := #[.func (.yield (w.heap.size + 1)) #[] #[]] }, U, gf,
    #[.func (.yield (w.heap.size + 1)) #[] #[]] ++ lb, U, run_enterLoop_outer _ _ _ _ _, ?_, fun _ _ => trivial, ?_, fun e => absurd e noDepth, ?_⟩
  rotate_left 2
  · refine (h fn _ rfl).mono ?_
    rintro e V ⟨⟨v, rfl⟩, ⟨hl, hq⟩ | ⟨c, hl, hq⟩⟩
    · exact ⟨none, _, run_endLoop hl (by simp), hq⟩
    · exact ⟨some c, _, run_endLoop hl (by simp [doneL]), hq⟩
  · simp only [resolve, hg]
    simp [go_sem]
  · simp [invoke, go_sem, eg]

-- INLEND
theorem ev_snd {C : Call} (hC : COK P false C) (hm : P.follows .mixedOrders = true) : ∀ c : Code, SndA P C .all c c ∧ SndB P C c ∧ SndT P C c := by
  intro c
  induction c with
  | skip => refine snd_plain (fun _ => rfl) (fun h => h) ?_; intro ro dp n0 B ρ0 ρ1 st hs K a w hdf hl h hH hT; exact wpIn_skip ⟨.normal, ρ1, st, hs, B, trivial, h, hT, hH, .refl _ _ _, Bel.refl _ _⟩
  | label l' =>
    refine ⟨?_, fun l d hd => ?_, ?_⟩
    · intro ro dp n0 B ρ0 ρ1 st hs K a w hdf hl h hH hT; exact wpIn_label ⟨.normal, ρ1, st, hs, B, trivial, h, hT, hH, .refl _ _ _, Bel.refl _ _⟩
    · intro ro dp n0 B ρ0 ρ1 st hs K a w hdf hl h hH hT
      unfold findLabel at hd
      unfold ev at h
      dsimp only at h
      split at h
      · rename_i h1
        rw [of_decide_eq_true h1, beq_self_eq_true, if_pos rfl] at hd
        cases hd
        exact wpIn_skip ⟨.normal, ρ1, st, hs, B, trivial, h, hT, hH, .refl _ _ _, Bel.refl _ _⟩
      · exact h.elim
    · intro l M0 ro dp n0 B ρ0 ρ1 st hs K K2 a w hdf hl h hH hT _ hk
      unfold ev at h
      dsimp only at h
      split at h
      · rename_i h1
        obtain ⟨T, hs', hw, hb⟩ := hk _ _ h
        obtain ⟨ρ2, hH2, hT2⟩ := weak_rel hw hl hH hT
        unfold ev at hb
        dsimp only at hb
        rw [h1] at hb
        exact wpIn_label ⟨.normal, ρ2, T, hs', B, trivial, hb, hT2, hH2, .refl _ _ _, Bel.refl _ _⟩
      · exact h.elim
  | ret => refine snd_plain (fun _ => rfl) (fun h => h) ?_; intro ro dp n0 B ρ0 ρ1 st hs K a w hdf hl h hH hT; exact wpIn_ret ⟨.ret, ρ1, st, hs, B, trivial, h, hT, hH, .refl _ _ _, Bel.refl _ _⟩
  | exit id => refine snd_plain (fun _ => rfl) (fun h => h) ?_; intro ro dp n0 B ρ0 ρ1 st hs K a w hdf hl h hH hT; exact wpIn_exit ⟨.exit id, ρ1, st, hs, B, rfl, h, hT, hH, .refl _ _ _, Bel.refl _ _⟩
  | region id ops draw =>
    refine snd_plain (fun _ => rfl) (fun h => h) ?_
    intro ro dp n0 B ρ0 ρ1 st hs K a w hdf hl h hH hT
    have key : ∀ {hs : List Hint} {K : Ex → St → List Hint → Prop}, (evRegion C P ops draw st hs fun st hs => K .normal st hs) → (Code.region id ops draw).wpIn (rnd ro) dp P (LeftE ρ0 B w a.defers K) a w := by
      intro hs K h
      refine evRegion_sound (K := fun st hs => K .normal st hs) hC hm hdf h hH hT (fun c a w hx => ?_) (fun a w hx => ?_) fun a' w' hx => ?_
      · obtain ⟨x, _, _, _, _, he, _⟩ := hx; cases x <;> exact he
      · obtain ⟨x, _, _, _, _, he, _⟩ := hx; cases x <;> exact he
      · obtain ⟨ρ', st', hs', k, t, hh, d, b, _⟩ := hx
        exact ⟨.normal, ρ1 ++ ρ', st', hs', B, trivial, k, by simpa using t, by simpa using hh, .at d _, b⟩
    cases draw with
    | true =>
      refine mrg_sound (b := true) (f := fun hs K => splits 6 hs fun hs => match hs with
        | .dag css M Φ :: hs => evDag n0 C P ops css M Φ st hs fun st hs => K .normal st hs
        | hs => evRegion C P ops true st hs fun st hs => K .normal st hs) hl h fun {hs K} h => ?_
      obtain ⟨hs, h⟩ := splits_iff h
      split at h
      · refine evDag_sound hC hm hdf hl (K := fun st hs => K .normal st hs) h hH hT (fun a w hx => ?_) fun a' w' hx => ?_
        · obtain ⟨x, _, _, _, _, he, _⟩ := hx; cases x <;> exact he
        · obtain ⟨ρ', st', hs', k, t, hh, d, b⟩ := hx
          exact ⟨.normal, ρ', st', hs', B, trivial, k, t, hh, .at d _, b⟩
      · exact key h
    | false =>
      obtain ⟨hs, h⟩ := splits_iff h
      exact key h
  | seq x y ihx ihy =>
    have dx : ∀ {ro : Option Nat}, (ro = none ∨ noDef (.seq x y) = true) → ro = none ∨ noDef x = true := fun h => h.imp id fun e => (Bool.and_eq_true _ _ ▸ e : _ ∧ _).1
    have dy : ∀ {ro : Option Nat}, (ro = none ∨ noDef (.seq x y) = true) → ro = none ∨ noDef y = true := fun h => h.imp id fun e => (Bool.and_eq_true _ _ ▸ e : _ ∧ _).2
    have other : ∀ {R : St → List Hint → Prop} {K : Ex → St → List Hint → Prop} (e : Ex) (s : St) (hs : List Hint), e ≠ .normal → (match e with | .normal => R s hs | e => K e s hs) → K e s hs := fun e s hs hne hk => by cases e <;> first | exact absurd rfl hne | exact hk
    refine ⟨?_, fun l d hd => ?_, ?_⟩
    · intro ro dp n0 B ρ0 ρ1 st hs K a w hdf hl h hH hT
      exact seq_gen (ihx.1 (dx hdf) hl h hH hT) (fun hk hH hT => ihy.1 (dy hdf) hl hk hH hT) other
    · intro ro dp n0 B ρ0 ρ1 st hs K a w hdf hl h hH hT
      unfold findLabel at hd
      unfold ev at h
      dsimp only at h
      have es := onSpine_eq x l
      split at hd
      · rename_i r e
        cases hd
        rw [e] at es
        rw [show onSpine x l = true from es] at h
        exact seq_gen (ihx.2.1 l r e (dx hdf) hl h hH hT) (fun hk hH hT => ihy.1 (dy hdf) hl hk hH hT) other
      · rename_i e
        rw [e] at es
        rw [show onSpine x l = false from es] at h
        exact ihy.2.1 l d hd (dy hdf) hl h hH hT
    · intro l M0 ro dp n0 B ρ0 ρ1 st hs K K2 a w hdf hl h hH hT ho hk
      unfold ev at h
      dsimp only at h
      cases es : onSpine x l with
      | true =>
        rw [es] at h
        refine seq_gen (ihx.2.2 (M0 := M0) (K2 := fun e s hs => match e with | .normal => ev C P n0 y .all s hs K2 | e => K2 e s hs) (dx hdf) hl h hH hT (fun e s hs hne hk => ?_) fun s hs hn => ?_) (fun hk hH hT => ihy.1 (dy hdf) hl hk hH hT) other
        · have := ho e s hs hne hk
          cases e <;> first | exact absurd rfl hne | exact this
        · obtain ⟨T, hs', hw, hb⟩ := hk s hs hn
          unfold ev at hb
          dsimp only at hb
          rw [es] at hb
          exact ⟨T, hs', hw, hb⟩
      | false =>
        rw [es] at h
        refine seq_gen (ihx.1 (dx hdf) hl h hH hT) (fun hn hH hT => ihy.2.2 (M0 := M0) (dy hdf) hl hn hH hT ho fun s hs hn => ?_) fun e s hs hne hk => ho e s hs hne (other (R := fun s hs => ev C P n0 y (.til l) s hs K) e s hs hne hk)
        obtain ⟨T, hs', hw, hb⟩ := hk s hs hn
        unfold ev at hb
        dsimp only at hb
        rw [es] at hb
        exact ⟨T, hs', hw, hb⟩
  | cond c x y ihx ihy =>
    refine snd_plain (fun _ => rfl) (fun h => h) ?_
    intro ro dp n0 B ρ0 ρ1 st hs K a w hdf hl h hH hT
    refine mrg_sound hl h fun {hs K} h => ?_
    obtain ⟨s, p, hs', hb, hk⟩ := test_iff h
    have hc := asBool_rel (hT.op c) hb
    cases p with
    | true => exact wpIn_cond_true hc (ihx.1 (hdf.imp id fun e => (Bool.and_eq_true _ _ ▸ e : _ ∧ _).1) hl hk hH hT)
    | false => exact wpIn_cond_false hc (ihy.1 (hdf.imp id fun e => (Bool.and_eq_true _ _ ▸ e : _ ∧ _).2) hl hk hH hT)
  | block id body ih =>
    refine snd_plain (fun _ => rfl) (fun h => h) ?_
    intro ro dp n0 B ρ0 ρ1 st hs K a w hdf hl h hH hT
    refine mrg_sound hl h fun {hs K} h => ?_
    refine wpIn_block (wpIn_mono (ih.1 hdf hl h hH hT) fun e a' w' he => ?_)
    obtain ⟨x', ρ1', st', hs', B2, hex, hk, hT', hH', hd, hb⟩ := he
    cases e with
    | normal => cases x' with
      | normal => exact ⟨.normal, ρ1', st', hs', B2, hex, hk, hT', hH', hd, hb⟩
      | exit _ => exact hex.elim
      | ret => exact hex.elim
      | goto _ => exact hex.elim
    | exit i => cases x' with
      | exit j =>
        have hij : i = j := hex
        subst hij
        dsimp only at hk
        show (if i = id then _ else _)
        split at hk
        · rename_i hd'; rw [if_pos (of_decide_eq_true hd')]; exact ⟨.normal, ρ1', st', hs', B2, trivial, hk, hT', hH', hd, hb⟩
        · rename_i hd'; rw [if_neg (of_decide_eq_false hd')]; exact ⟨.exit i, ρ1', st', hs', B2, rfl, hk, hT', hH', hd, hb⟩
      | normal => exact hex.elim
      | ret => exact hex.elim
      | goto _ => exact hex.elim
    | ret => cases x' with
      | ret => exact ⟨.ret, ρ1', st', hs', B2, hex, hk, hT', hH', hd, hb⟩
      | normal => exact hex.elim
      | exit _ => exact hex.elim
      | goto _ => exact hex.elim
    | goto l => cases x' with
      | goto j => exact ⟨.goto j, ρ1', st', hs', B2, hex, hk, hT', hH', hd, hb⟩
      | normal => exact hex.elim
      | exit _ => exact hex.elim
      | ret => exact hex.elim
    | panic c => cases x' <;> exact hex.elim
    | outgrown => cases x' <;> exact hex.elim
  | loop body ih =>
    refine snd_plain (fun _ => rfl) (fun h => h) ?_
    intro ro dp n0 B ρ0 ρ1 st hs K a w hdf hl h hH hT
    unfold ev at h
    have thenE : ∀ {B1 : Gd} {w0 : World} {ds : List Deferred} {R : Act → World → Prop} {K' : Ex → St → List Hint → Prop} (e : Exit) (a' : Act) (w' : World), LeftE ρ0 B1 w0 ds K' e a' w' →
        (∀ B2 ρ1' st' hs', K' .normal st' hs' → TmpsR (ρ0 ++ ρ1') st'.t a' → HpR B2 (ρ0 ++ ρ1') st'.h w' → Mk B1 B2 ds a'.defers w' → Bel B1 w0 w' → R a' w') →
        (∀ x, x ≠ .normal → ∀ st' hs', K' x st' hs' → ∃ hs'', K x st' hs'') → Bel B w w0 → Mk B B1 a.defers ds w0 → Exit.then R (LeftE ρ0 B w a.defers K) e a' w' := by
      intro B1 w0 ds R K' e a' w' he hR hx hbw hds
      obtain ⟨x', ρ1', st', hs', B2, hex, hk, hT', hH', hd, hb⟩ := he
      cases e with
      | normal => cases x' with
        | normal => exact hR B2 ρ1' st' hs' hk hT' hH' hd hb
        | exit _ => exact hex.elim
        | ret => exact hex.elim
        | goto _ => exact hex.elim
      | exit i => cases x' with
        | exit j => obtain ⟨hs2, hk2⟩ := hx (.exit j) (by simp) _ _ hk; exact ⟨.exit j, ρ1', st', hs2, B2, hex, hk2, hT', hH', hds.trans hd hb, hbw.trans (hb.mono hds.le)⟩
        | normal => exact hex.elim
        | ret => exact hex.elim
        | goto _ => exact hex.elim
      | ret => cases x' with
        | ret => obtain ⟨hs2, hk2⟩ := hx .ret (by simp) _ _ hk; exact ⟨.ret, ρ1', st', hs2, B2, hex, hk2, hT', hH', hds.trans hd hb, hbw.trans (hb.mono hds.le)⟩
        | normal => exact hex.elim
        | exit _ => exact hex.elim
        | goto _ => exact hex.elim
      | goto l => cases x' with
        | goto j => obtain ⟨hs2, hk2⟩ := hx (.goto j) (by simp) _ _ hk; exact ⟨.goto j, ρ1', st', hs2, B2, hex, hk2, hT', hH', hds.trans hd hb, hbw.trans (hb.mono hds.le)⟩
        | normal => exact hex.elim
        | exit _ => exact hex.elim
        | ret => exact hex.elim
      | panic c => cases x' <;> exact hex.elim
      | outgrown => cases x' <;> exact hex.elim
    -- by an invariant
    have inv : ∀ {α : Type} {p0 : α} {Φ : α → St} {I : α → Prop} {μ : α → Nat} {M0 M M' : Modes} {af hs' : α → List Hint} {hs : List Hint} {N : α → St → Prop}, (∀ p T, N p T → ∃ p', T = Φ p' ∧ I p' ∧ μ p' < μ p) →
        (match weakSt n0 M0 st with | some T => T = Φ p0 ∧ I p0 | none => False) → (∀ p, I p → ev C P n0 body .all (Φ p) (hs' p) (roundEnd n0 M M' (N p) K (af p ++ hs))) → (Code.loop body).wpIn (rnd ro) dp P (LeftE ρ0 B w a.defers K) a w := by
      intro α p0 Φ I μ M0 M M' af hs' hs N hN h0 hround
      split at h0
      · rename_i T0 hsub
        obtain ⟨rfl, hI0⟩ := h0
        obtain ⟨ρ2, hH2, hT2⟩ := weak_rel hsub hl hH hT
        refine wpIn_loop_rounds (μ p0 + 1) ?_
        have key : ∀ (n : Nat) {B1 : Gd} {ρ1 : List Loc} {p : α} {a1 : Act} {w1 : World}, μ p < n → I p → HpR B1 (ρ0 ++ ρ1) (Φ p).h w1 → TmpsR (ρ0 ++ ρ1) (Φ p).t a1 → Mk B B1 a.defers a1.defers w1 → Bel B w w1 →
            Code.roundsIn (rnd ro) dp P body (LeftE ρ0 B w a.defers K) n a1 w1 := by
          intro n
          induction n with
          | zero => intro B1 ρ1 p a1 w1 h; omega
          | succ n ihn =>
            intro B1 ρ1 p a1 w1 hμ hI hH hT hd hb
            rw [roundsIn_succ]
            have hev := hround p hI
            refine wpIn_mono (ih.1 hdf hl hev hH hT) fun e a' w' he => ?_
            obtain ⟨x', ρ1', st', hs'', B2, hex, hk, hT', hH', hd', hb'⟩ := he
            have other : ∀ x', x' ≠ .normal → roundEnd n0 M M' (N p) K (af p ++ hs) x' st' hs'' → ∃ T, weakSt n0 (endM M' hs'') st' = some T ∧ K x' T (af p ++ hs) := by
              intro x' hx hr
              unfold roundEnd at hr
              split at hr
              · exact absurd rfl hx
              · split at hr
                · exact ⟨_, by assumption, hr⟩
                · exact hr.elim
            cases e with
            | normal => cases x' with
              | normal =>
                unfold roundEnd at hk
                dsimp only at hk
                split at hk
                · rename_i T hwk
                  obtain ⟨p', rfl, hI', hlt⟩ := hN _ _ hk
                  obtain ⟨ρ3, hH3, hT3⟩ := weak_rel hwk hl hH' hT'
                  exact ihn (by omega) hI' hH3 hT3 (hd.trans hd' hb') (hb.trans (hb'.mono hd.le))
                · exact hk.elim
              | exit _ => exact hex.elim
              | ret => exact hex.elim
              | goto _ => exact hex.elim
            | exit i => cases x' with
              | exit j =>
                obtain ⟨T, hwk, hk⟩ := other _ (by simp) hk
                obtain ⟨ρ3, hH3, hT3⟩ := weak_rel hwk hl hH' hT'
                exact ⟨.exit j, ρ3, T, _, B2, hex, hk, hT3, hH3, hd.trans hd' hb', hb.trans (hb'.mono hd.le)⟩
              | normal => exact hex.elim
              | ret => exact hex.elim
              | goto _ => exact hex.elim
            | ret => cases x' with
              | ret =>
                obtain ⟨T, hwk, hk⟩ := other _ (by simp) hk
                obtain ⟨ρ3, hH3, hT3⟩ := weak_rel hwk hl hH' hT'
                exact ⟨.ret, ρ3, T, _, B2, hex, hk, hT3, hH3, hd.trans hd' hb', hb.trans (hb'.mono hd.le)⟩
              | normal => exact hex.elim
              | exit _ => exact hex.elim
              | goto _ => exact hex.elim
            | goto l => cases x' with
              | goto j =>
                obtain ⟨T, hwk, hk⟩ := other _ (by simp) hk
                obtain ⟨ρ3, hH3, hT3⟩ := weak_rel hwk hl hH' hT'
                exact ⟨.goto j, ρ3, T, _, B2, hex, hk, hT3, hH3, hd.trans hd' hb', hb.trans (hb'.mono hd.le)⟩
              | normal => exact hex.elim
              | exit _ => exact hex.elim
              | ret => exact hex.elim
            | panic c => cases x' <;> exact hex.elim
            | outgrown => cases x' <;> exact hex.elim
        exact key _ (Nat.lt_succ_self _) hI0 hH2 hT2 (.refl _ _ _) (Bel.refl _ _)
      · exact h0.elim
    split at h
    · rename_i n hs
      refine wpIn_loop_rounds n ?_
      have key : ∀ (n : Nat) {B1 : Gd} {ρ1 : List Loc} {st : St} {hs : List Hint} {a1 : Act} {w1 : World}, loopN (ev C P n0 body .all) n st hs K → HpR B1 (ρ0 ++ ρ1) st.h w1 → TmpsR (ρ0 ++ ρ1) st.t a1 → Mk B B1 a.defers a1.defers w1 → Bel B w w1 →
          Code.roundsIn (rnd ro) dp P body (LeftE ρ0 B w a.defers K) n a1 w1 := by
        intro n
        induction n with
        | zero => intro B1 ρ1 st hs a1 w1 h; exact h.elim
        | succ n ihn =>
          intro B1 ρ1 st hs a1 w1 h hH hT hd hb
          rw [roundsIn_succ]
          refine wpIn_mono (ih.1 hdf hl h hH hT) fun e a' w' he => ?_
          refine thenE e a' w' he (fun B2 ρ1' st' hs' hk hT' hH' hd' hb' => ihn hk hH' hT' (hd.trans hd' hb') (hb.trans (hb'.mono hd.le))) (fun x hx st' hs' hk => ⟨hs', ?_⟩) hb hd
          cases x with
          | normal => exact absurd rfl hx
          | exit _ => exact hk
          | ret => exact hk
          | goto _ => exact hk
      exact key n h hH hT (.refl _ _ _) (Bel.refl _ _)
    · rename_i α p0 Φ I μ M0 M M' af hs' hs
      exact inv (fun _ _ h => h) h.1 h.2
    · rename_i α β p0 Φ Ψ I J μ ν M0 M M' af ag hs' gs' hs
      obtain ⟨h0, h1, h2⟩ := h
      refine inv (α := α ⊕ β) (p0 := .inl p0) (M0 := M0) (M := M) (M' := M') (Φ := Sum.elim Φ Ψ) (I := Sum.elim I J) (μ := Sum.elim μ ν) (af := Sum.elim af ag) (hs' := Sum.elim hs' gs') (hs := hs)
        (N := Sum.elim (fun p T => (∃ p', T = Φ p' ∧ I p' ∧ μ p' < μ p) ∨ ∃ q, T = Ψ q ∧ J q ∧ ν q < μ p) fun q T => (∃ p, T = Φ p ∧ I p ∧ μ p < ν q) ∨ ∃ q', T = Ψ q' ∧ J q' ∧ ν q' < ν q) (fun x T hT => ?_) h0 fun x hx => ?_
      · cases x with
        | inl p => exact hT.elim (fun ⟨p', h⟩ => ⟨.inl p', h⟩) fun ⟨q, h⟩ => ⟨.inr q, h⟩
        | inr q => exact hT.elim (fun ⟨p', h⟩ => ⟨.inl p', h⟩) fun ⟨q, h⟩ => ⟨.inr q, h⟩
      · cases x with
        | inl p => exact h1 p hx
        | inr q => exact h2 q hx
    · exact h.elim
  | rangeFunc f ps x y ihx ihy =>
    refine snd_plain (fun _ => rfl) (fun h => h) ?_
    intro ro dp n0 B ρ0 ρ1 st hs K a w hdf hl h hH hT
    obtain rfl : ro = none := hdf.resolve_right (by simp [noDef])
    unfold ev at h
    split at h
    case h_2 => exact h.elim
    rename_i gf caps hnd hg
    rw [Bool.and_eq_true] at hnd
    split at h
    · rename_i H hs
      unfold evInl at h
      split at h
      · exact h.elim
      rename_i fn hfn
      split at h
      · exact h.elim
      rename_i c hbody
      split at h
      case h_2 => exact h.elim
      rename_i hres hndc hle
      rw [Bool.and_eq_true] at hndc
      obtain ⟨hndc, hname⟩ := hndc
      have hres := of_decide_eq_true hres
      have hle := of_decide_eq_true hle
      have hgv := hT.op f
      rw [hg] at hgv
      generalize hgf : a.eval f = gv at hgv
      cases hgv with
      | func hnil hcaps =>
      cases hnil
      rename_i vs
      have hname : ¬ fn.name = "runtime.NumGoroutine" := by simpa using hname
      refine wpIn_inl hgf (fun args w => by simp [callFunc, hfn, hname, hbody]) fun fnm r hr => ?_
      have hlen : (ρ0 ++ ρ1).length = st.h.length := hH.len
      generalize hU : (w.alloc (.deferred (some []))).alloc (.loop r) = U
      have hUs : U.heap.size = w.heap.size + 2 := by rw [← hU, World.size_alloc, World.size_alloc]
      have hUl : U.heap[w.heap.size + 1]? = some (.loop r) := by
        rw [← hU]
        have := World.alloc_heap_new (w.alloc (.deferred (some []))) (.loop r)
        rwa [World.size_alloc] at this
      have hUD : U.heap[w.heap.size]? = some (.deferred (some [])) := by
        rw [← hU]
        exact (Below.heap_alloc _ _ _ (by simp)).trans (World.alloc_heap_new w _)
      have hUb : Bel (bl w.heap.size) w U := by
        rw [← hU]
        have hb : Below w.heap.size w ((w.alloc (.deferred (some []))).alloc (.loop r)) := ((Below.refl _ w).alloc (Nat.le_refl _) _).alloc (by simp) _
        exact ⟨⟨hb.os, hb.tape, hb.output, hb.size, fun j hj => hb.block j hj⟩, fun _ => Nat.le_refl _⟩
      generalize hBB : orG B (fun b => b = w.heap.size ∨ b = w.heap.size + 1) = BB
      have hle1 : Gd.le B BB := hBB ▸ le_orG _ _
      have hBl : BB (w.heap.size + 1) := hBB ▸ .inr (.inr rfl)
      have hBD : BB w.heap.size := hBB ▸ .inr (.inl rfl)
      have hHU : HpR BB (ρ0 ++ ρ1) st.h U := hBB ▸ hH.more hUb fun b hb => by rcases hb with rfl | rfl <;> omega
      have hRd : RdOK P (w.heap.size + 1) (ρ0 ++ ρ1) BB r (roundI (fun n => ev C P n x .all) (fun n => ev C P n y .all) st.t ps.toList) := by
        intro m ρ2 ys vs' h' hs' K' w1 hrd hH1 hys hbk
        unfold roundI at hrd
        split at hrd
        case h_2 => exact hrd.elim
        rename_i hyl
        have hyl := of_decide_eq_true hyl
        have hvl : vs'.length = ps.size := by rw [← hys.length, hyl]; simp
        have hT2 := putTs_rel (ds := []) hyl hys (t := st.t) (ts := a.tmps) ⟨(hT.app ρ2).len, (hT.app ρ2).get⟩
        have hrs : r.state = .ready := by rw [hr]
        have hry := run_yield (P := P) hbk (args := vs'.toArray) (by rw [hr]; simpa using hvl)
        rw [hr] at hry
        refine ⟨_, _, _, _, hry, roundIn_of_wpIn trivial ?_⟩
        have leave : ∀ (e : Ex) {ρ3 ρ4 : List Loc} {Wa V : World} {B2 B3 : Gd} {h3 : Hp} {hs3 : List Hint}, e.out → K' (some e) h3 hs3 → objsWr h3 = true → HpR B3 ((((ρ0 ++ ρ1) ++ ρ2) ++ ρ3) ++ ρ4) h3 V → Gd.le BB B3 → Bel BB w1 Wa → Gd.le BB B2 →
            Bel B2 (Wa.putObj (w.heap.size + 1) (.loop { r with state := .busy })) V → exCode e = exCode e → ∃ v V', (Instr.endRound (w.heap.size + 1) (some (exCode e))).run P V = .ok v V' ∧ ∃ m, Ending.returned v = .returned (.bool (goOn m)) ∧ ∃ ρ2' h' hs', K' m h' hs' ∧ HpR BB ((ρ0 ++ ρ1) ++ ρ2') h' V' ∧ (∃ ρ3, ρ2' = ρ2 ++ ρ3) ∧ (match m with
              | none => Bel BB w1 V'
              | some e => BaseI BB (w.heap.size + 1) r w1 (some e) V') := by
          intro e ρ3 ρ4 Wa V B2 B3 h3 hs3 heo hk3 hw3 hH3 hle3 hb3 hle2 hb4 _
          have hl1 : Wa.heap[w.heap.size + 1]? = some (.loop r) := (hb3.block _ hBl).trans hbk
          have hl2 : V.heap[w.heap.size + 1]? = some (.loop { r with state := .busy }) := (hb4.block _ (hle2 _ hBl)).trans (World.putObj_heap_same (Array.getElem?_eq_some_iff.1 hl1).1)
          have hbk3 := hH3.book (hle3 _ hBl) (.loop (doneL r (exCode e))) hl2 rfl hw3
          refine ⟨_, _, run_endRound (some (exCode e)) hl2, some e, rfl, ρ2 ++ (ρ3 ++ ρ4), h3, hs3, hk3, ?_, ⟨ρ3 ++ ρ4, rfl⟩, heo, World.putObj_heap_same (Array.getElem?_eq_some_iff.1 hl2).1, ?_⟩
          · have := hbk3.guard hle3 fun p hp => ⟨(hH1.glob p hp).1, (hbk3.glob p hp).2⟩
            exact (by simpa [List.append_assoc] using this : HpR BB ((ρ0 ++ ρ1) ++ (ρ2 ++ (ρ3 ++ ρ4))) h3 (V.putObj (w.heap.size + 1) (.loop (doneL r (exCode e)))))
          · have g1 := grownBy_putObj' Wa (w.heap.size + 1) (.loop { r with state := .busy })
            have g2 := grownBy_putObj' V (w.heap.size + 1) (.loop (doneL r (exCode e)))
            refine ⟨⟨g2.os.trans (hb4.os.trans (g1.os.trans hb3.os)), g2.tape.trans (hb4.tape.trans (g1.tape.trans hb3.tape)), g2.output.trans (hb4.output.trans (g1.output.trans hb3.output)), Nat.le_trans hb3.size (Nat.le_trans g1.size (Nat.le_trans hb4.size g2.size)), fun j hj => ?_⟩, fun e => Nat.le_trans (hb3.drawn e) (hb4.drawn e)⟩
            have hj1 := hH1.base j hj.1
            have hj2 : j < Wa.heap.size := Nat.lt_of_lt_of_le hj1 hb3.size
            have hj3 : j < V.heap.size := Nat.lt_of_lt_of_le hj2 (Nat.le_trans g1.size hb4.size)
            exact (g2.block j hj3 fun e => hj.2 (Option.some.inj e)).trans ((hb4.block j (hle2 _ hj.1)).trans ((g1.block j hj2 fun e => hj.2 (Option.some.inj e)).trans (hb3.block j hj.1)))
        have sx : SndA P C .all x x := ihx.1
        have sy : SndA P C .all y y := ihy.1
        refine wpIn_mono (sx (ro := some (w.heap.size + 1)) (ρ0 := (ρ0 ++ ρ1) ++ ρ2) (ρ1 := []) (a := { tmps := _, defers := [] }) (.inr hnd.1) hH1.len hrd (by rw [List.append_nil]; exact hH1) ?_) fun e a' Wa he => ?_
        · rw [List.append_nil]
          have e1 : (ps.zip vs'.toArray).foldl (fun t (p, v) => t.setIfInBounds p v) a.tmps = (ps.toList.zip vs').foldl (fun t (p, v) => t.setIfInBounds p v) a.tmps := by
            rw [← Array.foldl_toList, Array.toList_zip]
          rw [e1]
          exact hT2
        obtain ⟨x', ρ3, s1, hs1, B2, hex, hk, hT3, hH3, hmk, hb3⟩ := he
        cases e with
        | normal => cases x' with
          | normal =>
            dsimp only at hk
            split at hk
            case h_2 => exact hk.elim
            rename_i hw1
            have hl1 : Wa.heap[w.heap.size + 1]? = some (.loop r) := (hb3.block _ hBl).trans hbk
            refine ⟨_, run_beginRound hl1 hrs, ?_⟩
            have hHb := hH3.book (hmk.le _ hBl) (.loop { r with state := .busy }) hl1 rfl hw1
            refine wpIn_mono (sy (ro := some (w.heap.size + 1)) (ρ0 := ((ρ0 ++ ρ1) ++ ρ2) ++ ρ3) (ρ1 := []) (.inr hnd.2) hHb.len hk (by rw [List.append_nil]; exact hHb) (by rw [List.append_nil]; exact hT3)) fun e a3 V he => ?_
            obtain ⟨x2, ρ4, s2, hs2, B3, hex2, hk2, hT4, hH4, hmk2, hb4⟩ := he
            cases e with
            | normal => cases x2 with
              | normal =>
                dsimp only at hk2
                split at hk2
                case h_2 => exact hk2.elim
                rename_i hw2
                have hl2 : V.heap[w.heap.size + 1]? = some (.loop { r with state := .busy }) := (hb4.block _ (hmk.le _ hBl)).trans (World.putObj_heap_same (Array.getElem?_eq_some_iff.1 hl1).1)
                refine ⟨_, _, run_endRound none hl2, ?_⟩
                have er : ({ ({ r with state := .busy } : Loop) with state := if (none : Option Code).isNone then .ready else .done, pending := none } : Loop) = r := by rw [hr]; rfl
                rw [er]
                have hbel : Bel BB w1 (V.putObj (w.heap.size + 1) (.loop r)) := by
                  have g1 := grownBy_putObj' Wa (w.heap.size + 1) (.loop { r with state := .busy })
                  have g2 := grownBy_putObj' V (w.heap.size + 1) (.loop r)
                  refine ⟨⟨g2.os.trans (hb4.os.trans (g1.os.trans hb3.os)), g2.tape.trans (hb4.tape.trans (g1.tape.trans hb3.tape)), g2.output.trans (hb4.output.trans (g1.output.trans hb3.output)), Nat.le_trans hb3.size (Nat.le_trans g1.size (Nat.le_trans hb4.size g2.size)), fun j hj => ?_⟩, fun e => Nat.le_trans (hb3.drawn e) (hb4.drawn e)⟩
                  by_cases hjl : j = w.heap.size + 1
                  · subst hjl
                    exact (World.putObj_heap_same (Array.getElem?_eq_some_iff.1 hl2).1).trans hbk.symm
                  · have hj1 := hH1.base j hj
                    have hj2 : j < Wa.heap.size := Nat.lt_of_lt_of_le hj1 hb3.size
                    have hj3 : j < V.heap.size := Nat.lt_of_lt_of_le hj2 (Nat.le_trans g1.size hb4.size)
                    exact (g2.block j hj3 fun e => hjl (Option.some.inj e)).trans ((hb4.block j (hmk.le _ hj)).trans ((g1.block j hj2 fun e => hjl (Option.some.inj e)).trans (hb3.block j hj)))
                have hfin := (hH4.book (hmk2.le _ (hmk.le _ hBl)) (.loop r) hl2 rfl hw2).guard (hmk.le.trans hmk2.le) (hH1.glob.below hbel)
                exact ⟨none, rfl, ρ2 ++ (ρ3 ++ ρ4), s2.h, hs2, hk2, by simpa [List.append_assoc] using hfin, ⟨ρ3 ++ ρ4, rfl⟩, hbel⟩
              | exit _ => exact hex2.elim
              | ret => exact hex2.elim
              | goto _ => exact hex2.elim
            | exit i => cases x2 with
              | exit j =>
                have hex2 : i = j := hex2
                subst hex2
                dsimp only at hk2
                split at hk2
                case h_2 => exact hk2.elim
                rename_i hw2
                exact leave (.exit i) trivial hk2 hw2 hH4 (hmk.le.trans hmk2.le) hb3 hmk.le hb4 rfl
              | normal => exact hex2.elim
              | ret => exact hex2.elim
              | goto _ => exact hex2.elim
            | ret => cases x2 with
              | ret =>
                dsimp only at hk2
                split at hk2
                case h_2 => exact hk2.elim
                rename_i hw2
                exact leave .ret trivial hk2 hw2 hH4 (hmk.le.trans hmk2.le) hb3 hmk.le hb4 rfl
              | normal => exact hex2.elim
              | exit _ => exact hex2.elim
              | goto _ => exact hex2.elim
            | goto l => cases x2 with
              | goto j => exact False.elim hk2
              | normal => exact hex2.elim
              | exit _ => exact hex2.elim
              | ret => exact hex2.elim
            | panic c => cases x2 <;> exact hex2.elim
            | outgrown => cases x2 <;> exact hex2.elim
          | exit _ => exact hex.elim
          | ret => exact hex.elim
          | goto _ => exact hex.elim
        | exit i => cases x' with
          | exit j => exact False.elim hk
          | normal => exact hex.elim
          | ret => exact hex.elim
          | goto _ => exact hex.elim
        | ret => cases x' with
          | ret => exact False.elim hk
          | normal => exact hex.elim
          | exit _ => exact hex.elim
          | goto _ => exact hex.elim
        | goto l => cases x' with
          | goto j => exact False.elim hk
          | normal => exact hex.elim
          | exit _ => exact hex.elim
          | ret => exact hex.elim
        | panic c => cases x' <;> exact hex.elim
        | outgrown => cases x' <;> exact hex.elim
      refine callsIn_of_wp hfn hbody trivial ?_ rfl
      have hTs := tmps_start (m := fn.ntmps) (AVRs.cons (ρ := ρ0 ++ ρ1) (.func (fn := .yield (w.heap.size + 1)) .nil .nil) hcaps) hle
      refine wpIn_mono (evItI_sound hC hm hRd hBl (ds := []) (w0 := U) hUl hlen c hndc (ρ1 := []) (m := none) (h (w.heap.size + 1)) rfl ⟨by rw [List.append_nil]; exact hHU, ?_, Bel.refl _ _, rfl⟩) fun e a' V he => ?_
      · rw [List.append_nil]
        simpa using hTs
      obtain ⟨x', ρ3, s2, m2, hs2, w2, hex, hk, hB2, hR⟩ := he
      have fin : (match objsWr s2.h with | true => K (exOf m2) ⟨st.t, s2.h⟩ hs | false => False) → (∃ v, Ending.returned (.tuple #[]) = .returned v) ∧ ((V.heap[w.heap.size + 1]? = some (.loop r) ∧
          LeftE ρ0 B w a.defers K .normal { a with defers := { target := .collected w.heap.size, args := #[] } :: a.defers } (V.putObj (w.heap.size + 1) (.loop { r with state := .exhausted }))) ∨
          ∃ c, V.heap[w.heap.size + 1]? = some (.loop (doneL r c)) ∧ c.wpIn (rnd none) dp P (LeftE ρ0 B w a.defers K) { a with defers := { target := .collected w.heap.size, args := #[] } :: a.defers } (V.putObj (w.heap.size + 1) (.loop { doneL r c with state := .exhausted }))) := by
        intro hk
        split at hk
        case h_2 => exact hk.elim
        rename_i hwr
        have all : ∀ (r1 r2 : Loop) (x : Ex) (e : Exit), V.heap[w.heap.size + 1]? = some (.loop r1) → Bel (fun j => BB j ∧ j ≠ w.heap.size + 1) U V → ExR e x → K x ⟨st.t, s2.h⟩ hs →
            LeftE ρ0 B w a.defers K e { a with defers := { target := .collected w.heap.size, args := #[] } :: a.defers } (V.putObj (w.heap.size + 1) (.loop r2)) := by
          intro r1 r2 x e hlV hbUV hexx hk
          have g2 := grownBy_putObj' V (w.heap.size + 1) (.loop r2)
          have hVs : w.heap.size + 2 ≤ V.heap.size := by rw [← hUs]; exact hbUV.size
          have hp := hR.hp.book hBl (.loop r2) hlV rfl hwr
          refine ⟨x, ρ1 ++ ρ3, _, hs, BB, hexx, hk, ?_, by rw [← List.append_assoc]; exact hp, ⟨hle1, [w.heap.size], rfl, by simp, fun D hm => ?_⟩, ?_⟩
          · have := hT.app ρ3
            rw [List.append_assoc] at this
            exact ⟨this.len, this.get⟩
          · rw [List.mem_singleton] at hm
            subst hm
            exact ⟨hBD, fun hb => Nat.lt_irrefl _ (hH.base _ hb), (g2.block _ (by omega) fun e => by have := Option.some.inj e; omega).trans ((hbUV.block _ ⟨hBD, by omega⟩).trans hUD)⟩
          · refine ⟨⟨g2.os.trans (hbUV.os.trans hUb.os), g2.tape.trans (hbUV.tape.trans hUb.tape), g2.output.trans (hbUV.output.trans hUb.output), Nat.le_trans hUb.size (Nat.le_trans hbUV.size g2.size), fun j hj => ?_⟩, fun e => Nat.le_trans (hUb.drawn e) (hbUV.drawn e)⟩
            have hj1 : j < w.heap.size := hH.base j hj
            exact (g2.block j (by omega) fun e => by have := Option.some.inj e; omega).trans ((hbUV.block j ⟨hle1 _ hj, by omega⟩).trans (hUb.block j hj1))
        refine ⟨⟨_, rfl⟩, ?_⟩
        cases m2 with
        | none =>
          have hB2 : w2 = U := hB2
          subst hB2
          have hlV : V.heap[w.heap.size + 1]? = some (.loop r) := (hR.bel.block _ hBl).trans hUl
          exact .inl ⟨hlV, all r _ .normal .normal hlV (hR.bel.mono fun _ h => h.1) trivial hk⟩
        | some e0 =>
          obtain ⟨ho, hl2, hb2⟩ := hB2
          have hlV : V.heap[w.heap.size + 1]? = some (.loop (doneL r (exCode e0))) := (hR.bel.block _ hBl).trans hl2
          have hbUV := hb2.trans (hR.bel.mono fun _ h => h.1)
          refine .inr ⟨exCode e0, hlV, ?_⟩
          cases e0 with
          | normal => exact ho.elim
          | goto _ => exact ho.elim
          | ret => exact wpIn_ret (all _ _ .ret .ret hlV hbUV trivial hk)
          | exit id => exact wpIn_exit (all _ _ (.exit id) (.exit id) hlV hbUV rfl hk)
      have hr0 : fn.results = #[] := by
        have := hres
        simpa using this
      cases e with
      | normal => cases x' with
        | normal => exact bodyPost_end (results_none hr0 _ _ _) hR.df (fin hk)
        | exit _ => exact hex.elim
        | ret => exact hex.elim
        | goto _ => exact hex.elim
      | ret => cases x' with
        | ret => exact bodyPost_ret (results_none hr0 _ _ _) hR.df (fin hk)
        | normal => exact hex.elim
        | exit _ => exact hex.elim
        | goto _ => exact hex.elim
      | exit i => cases x' with
        | exit j => exact False.elim hk
        | normal => exact hex.elim
        | ret => exact hex.elim
        | goto _ => exact hex.elim
      | goto l => cases x' with
        | goto j => exact False.elim hk
        | normal => exact hex.elim
        | exit _ => exact hex.elim
        | ret => exact hex.elim
      | panic c => cases x' <;> exact hex.elim
      | outgrown => cases x' <;> exact hex.elim
    unfold evRng at h
    split at h
    case h_2 => exact h.elim
    rename_i α E xs rd bx H I m0 m rs hs' p hps hst hn
    obtain ⟨hini, hit, hround, hdone⟩ := h
    have hs0 : ∀ {w w' : World}, strict = true → w.drawn ≤ w'.drawn := fun e => by rw [hst] at e; cases e
    -- the iterator
    have hgv := hT.op f
    rw [hg] at hgv
    generalize hgf : a.eval f = gv at hgv
    cases hgv with
    | func hnil hcaps =>
    cases hnil
    rename_i vs
    obtain ⟨o, hO⟩ := hH.objs
    obtain ⟨henter, us, hus, hseq⟩ := hit _ _ w vs (hH.sel hO rd) hcaps
    obtain ⟨zs, hz1, hz2⟩ := zip_vals hus
    have hps' : ps = #[p] := by cases ps; simp at hps; rw [hps]
    subst hps'
    have hl' : (ρ0 ++ ρ1).length = st.h.length := hH.len
    let G := blkG o (ρ0 ++ ρ1) st.h rd
    let GG := orG B G
    have hF : HpR GG (ρ0 ++ ρ1) (frzH rd st.h) w := hH.frz hO rd
    have hBw : ∀ b, B b → b < w.heap.size := hH.base
    have hGGw : ∀ b, GG b → b < w.heap.size := hF.base
    -- what stands between two rounds
    let J : List { p : α × Value // AVR [] (E p.1) p.2 } → World → Prop := fun pre W => ∃ ρ2, HpR GG ((ρ0 ++ ρ1) ++ ρ2) (H (pre.map fun z => z.1.1)) W ∧ (∀ r k, (H (pre.map fun z => z.1.1)).obj r = some k → k.wr = false) ∧ I (pre.map fun z => z.1.1) ∧ Bel B w W
    let Jx : Code → List { p : α × Value // AVR [] (E p.1) p.2 } → World → Prop := fun c pre W => ∃ ρ2 s' hs2 e, ((c = .ret ∧ e = Ex.ret) ∨ ∃ i, c = .exit i ∧ e = Ex.exit i) ∧ ((pre.map fun z => z.1.1) <+: xs → K e ⟨st.t, s'⟩ hs2) ∧
      HpR GG ((ρ0 ++ ρ1) ++ ρ2) s' W ∧ (∀ r k, s'.obj r = some k → k.wr = false) ∧ Bel B w W
    have belTurn : ∀ {A A' : World} {row : Option Nat}, Bel B w A → A.grownBy A' row → (∀ r, row = some r → w.heap.size ≤ r) → Bel B w A' := fun hb hg' hr =>
      ⟨⟨hg'.os.trans hb.os, hg'.tape.trans hb.tape, hg'.output.trans hb.output, Nat.le_trans hb.size hg'.size, fun j hj => (hg'.block j (Nat.lt_of_lt_of_le (hBw j hj) hb.size) (fun e => by have := hr j e.symm; have := hBw j hj; omega)).trans (hb.block j hj)⟩, hs0⟩
    have hJ : OwnFrom w.heap.size J := fun s A A' row ⟨ρ2, a1, a2, a3, a4⟩ hg' hr => ⟨ρ2, a1.keptC (keptC_grown hst hg' fun r e => (hr r e).2), a2, a3, belTurn a4 hg' fun r e => (hr r e).1⟩
    have hJx : ∀ c, OwnFrom w.heap.size (Jx c) := fun c s A A' row ⟨ρ2, s', hs2, e, a0, a1, a2, a3, a4⟩ hg' hr => ⟨ρ2, s', hs2, e, a0, a1, a2.keptC (keptC_grown hst hg' fun r e => (hr r e).2), a3, belTurn a4 hg' fun r e => (hr r e).1⟩
    have hglobs : ∀ {B2 : Gd} {ρ : List Loc} {h : Hp} {W : World}, HpR B2 ρ h W → GlobOK GG W := fun hx q hq => ⟨(hF.glob q hq).1, (hx.glob q hq).2⟩
    have hfz : ∀ (h : Hp) r k, (frzH [] h).obj r = some k → k.wr = false := fun h r k hk => let ⟨_, _, _, _, e⟩ := frzH_obj hk; e
    have frz0 : ∀ {B2 : Gd} {ρ : List Loc} {h : Hp} {W : World}, HpR B2 ρ h W → HpR B2 ρ (frzH [] h) W := fun hx => by
      obtain ⟨o2, hO2⟩ := hx.objs
      exact (hx.frz hO2 []).guard (le_orG _ _) hx.glob
    refine wpIn_rng (n := dp) (Kp := KpG G) (S := fun ys => ys = zs) (Sp := fun pre => pre <+: zs) (N := zs.length) (encs := fun z : { p : α × Value // AVR [] (E p.1) p.2 } => #[z.1.2]) hgf henter (hseq _ _ _ _ hz2) (fun _ => rfl)
      (fun h1 h2 => ⟨Nat.le_trans h1.1 h2.1, fun b hb hlt => (h2.2 b hb (Nat.lt_of_lt_of_le hlt h1.1)).trans (h1.2 b hb hlt)⟩)
      (fun W l ob hle => ⟨by simp, fun b hb hlt => World.putObj_heap_other fun e => by have := hGGw b (.inr hb); omega⟩) J Jx hJ hJx ?_ ?_ ?_ ?_
    · -- at the start
      split at hini
      · rename_i h1 hb1
        split at hini
        · rename_i h2 hw2
          obtain ⟨e, hI⟩ := hini
          obtain ⟨ρa, ha⟩ := addBx_rel hb1 hF
          obtain ⟨ρb, hb⟩ := weakR_rel hw2 hl' ha
          exact ⟨ρb, by rw [List.map_nil, ← e]; exact frz0 hb, by rw [List.map_nil, ← e]; exact hfz _, hI, Bel.refl _ _⟩
        · exact hini.elim
      · exact hini.elim
    · -- a round
      intro l pre z W hle hJW hlen
      obtain ⟨⟨x, u⟩, hxu⟩ := z
      obtain ⟨ρ2, hHW, hob, hI, hbW⟩ := hJW
      have hr := hround _ x (by rw [List.length_map, ← hz1, List.length_map]; exact hlen) hI
      have hTW : TmpsR ((ρ0 ++ ρ1) ++ ρ2) (st.t.set p (E x)) { tmps := ((#[p] : Array Tmp).zip #[u]).foldl (fun t (q : Tmp × Value) => t.setIfInBounds q.1 q.2) a.tmps, defers := [] } := by
        have := (hT.app ρ2).put p (AVR.of_nil (ρ := (ρ0 ++ ρ1) ++ ρ2) hxu)
        exact ⟨by simpa using this.len, by simpa using this.get⟩
      have hHW2 := hHW.nc (ncG W) (fun _ h => h) hob
      refine wpIn_mono (ihx.1 (ro := some l) (dp := dp - 1 - 1) (.inr hnd.1) hl' hr hHW2 hTW) fun e a' Wa he => ?_
      obtain ⟨x1, ρ3, s1, hs1, B2, hex, hk, hT1, hH1, hmk, hb1⟩ := he
      cases x1 with
      | goto i => exact False.elim hk
      | exit i => exact hk.elim
      | ret => exact hk.elim
      | normal =>
      cases e with
      | normal =>
        refine ⟨⟨hb1.size, fun k ob _ h1 h2 => (hb1.block k (.inr ⟨ob, h1, h2⟩)).trans h1⟩, ⟨hb1.size, fun b hb _ => hb1.block b (.inl (.inr hb))⟩, fun Wb hgb hcb => ?_⟩
        have hH2 : HpR GG ((ρ0 ++ ρ1) ++ ρ3) (frzH [] s1.h) Wb := frz0 ((hH1.keptC (keptC_grown hst hgb fun r e => by cases e; exact hcb)).guard ((le_orG _ _).trans hmk.le) (hglobs (hH1.keptC (keptC_grown hst hgb fun r e => by cases e; exact hcb))))
        have hH3 := hH2.nc (ncG Wb) (fun _ h => h) (hfz _)
        have hbB : Bel B w Wb := belTurn (hbW.trans (hb1.mono fun b hb => .inl (.inl hb))) hgb fun r e => by cases e; exact hle
        refine wpIn_mono (ihy.1 (ro := some l) (dp := dp - 1 - 1) (.inr hnd.2) hl' hk hH3 hT1) fun e a2 V he => ?_
        obtain ⟨x2, ρ4, s2, hs2, B3, hex2, hk2, hT2, hH4, hmk2, hb2⟩ := he
        have kf : KeepsFrom w.heap.size Wb V := ⟨hb2.size, fun k ob _ h1 h2 => (hb2.block k (.inr ⟨ob, h1, h2⟩)).trans h1⟩
        have kp : KpG G Wb V := ⟨hb2.size, fun b hb _ => hb2.block b (.inl (.inr hb))⟩
        have hH5 : HpR GG ((ρ0 ++ ρ1) ++ ρ4) s2.h V := hH4.guard ((le_orG _ _).trans hmk2.le) (hglobs hH4)
        have hbV : Bel B w V := hbB.trans (hb2.mono fun b hb => .inl (.inl hb))
        have leave : ∀ (c : Code) (ex : Ex), ((c = .ret ∧ ex = Ex.ret) ∨ ∃ i, c = .exit i ∧ ex = Ex.exit i) → ((pre.map fun z => z.1.1) ++ [x] <+: xs → K ex ⟨st.t, frzH [] s2.h⟩ hs2) → Jx c (pre ++ [⟨(x, u), hxu⟩]) V := fun c ex hc hK =>
          ⟨ρ4, frzH [] s2.h, hs2, ex, hc, fun hp => hK (by rw [List.map_append, List.map_singleton] at hp; exact hp), frz0 hH5, hfz _, hbV⟩
        cases x2 with
        | goto i => exact False.elim hk2
        | normal =>
          cases e with
          | normal =>
            unfold rngEnd at hk2
            dsimp only at hk2
            split at hk2
            · rename_i T hw2
              obtain ⟨e, hI2⟩ := hk2
              obtain ⟨ρb, hb⟩ := weakR_rel hw2 hl' hH5
              refine ⟨kf, kp, ρb, ?_, ?_, ?_, hbV⟩
              · rw [List.map_append, List.map_singleton, ← e]; exact frz0 hb
              · rw [List.map_append, List.map_singleton, ← e]; exact hfz _
              · rw [List.map_append, List.map_singleton]; exact hI2
            · exact hk2.elim
          | exit i => exact hex2.elim
          | ret => exact hex2.elim
          | goto t => exact hex2.elim
          | panic c => exact hex2.elim
          | outgrown => exact hex2.elim
        | ret =>
          cases e with
          | ret => exact ⟨kf, leave .ret .ret (.inl ⟨rfl, rfl⟩) hk2⟩
          | normal => exact hex2.elim
          | exit i => exact hex2.elim
          | goto t => exact hex2.elim
          | panic c => exact hex2.elim
          | outgrown => exact hex2.elim
        | exit j =>
          cases e with
          | exit i =>
            have e : i = j := hex2
            subst e
            exact ⟨kf, leave (.exit i) (.exit i) (.inr ⟨i, rfl, rfl⟩) hk2⟩
          | ret => exact hex2.elim
          | normal => exact hex2.elim
          | goto t => exact hex2.elim
          | panic c => exact hex2.elim
          | outgrown => exact hex2.elim
      | exit i => exact hex.elim
      | ret => exact hex.elim
      | goto t => exact hex.elim
      | panic c => exact hex.elim
      | outgrown => exact hex.elim
    · -- all have come
      rintro D ys W hD rfl ⟨ρ2, hHW, hob, hI, hbW⟩ hdef
      rw [hz1] at hHW hob hI
      have hB0 : HpR B ((ρ0 ++ ρ1) ++ ρ2) (H xs) W := hHW.guard (le_orG _ _) (hH.glob.below hbW)
      refine ⟨.normal, ρ1 ++ ρ2, ⟨st.t, H xs⟩, hs', orG B (fun b => b = D), trivial, hdone hI, ?_, ?_, ⟨le_orG _ _, [D], rfl, by simp, fun D' hm => ?_⟩, hbW⟩
      · have := hT.app ρ2
        rw [List.append_assoc] at this
        exact ⟨this.len, this.get⟩
      · have := hB0.nc (fun b => b = D) (fun b e => by subst e; exact ⟨_, hdef, rfl⟩) hob
        rwa [List.append_assoc] at this
      · have hm : D' = D := by simpa using hm
        subst hm
        exact ⟨.inr rfl, fun hB => by have := hBw D' hB; omega, hdef⟩
    · -- a round has left
      rintro D c pre W hD hpre ⟨ρ2, s', hs2, e, hc, hK, hHW, hob, hbW⟩ hdef
      have hK := hK (hz1 ▸ hpre.map _)
      have hB0 : HpR B ((ρ0 ++ ρ1) ++ ρ2) s' W := hHW.guard (le_orG _ _) (hH.glob.below hbW)
      have hfin : ∀ {ex : Exit}, ExR ex e → LeftE ρ0 B w a.defers K ex { a with defers := { target := .collected D, args := #[] } :: a.defers } W := fun hex => by
        refine ⟨e, ρ1 ++ ρ2, ⟨st.t, s'⟩, hs2, orG B (fun b => b = D), hex, hK, ?_, ?_, ⟨le_orG _ _, [D], rfl, by simp, fun D' hm => ?_⟩, hbW⟩
        · have := hT.app ρ2
          rw [List.append_assoc] at this
          exact ⟨this.len, this.get⟩
        · have := hB0.nc (fun b => b = D) (fun b e => by subst e; exact ⟨_, hdef, rfl⟩) hob
          rwa [List.append_assoc] at this
        · have hm : D' = D := by simpa using hm
          subst hm
          exact ⟨.inr rfl, fun hB => by have := hBw D' hB; omega, hdef⟩
      rcases hc with ⟨rfl, rfl⟩ | ⟨i, rfl, rfl⟩
      · exact wpIn_ret (hfin trivial)
      · exact wpIn_exit (hfin rfl)
  | scope body ih =>
    refine snd_plain (fun _ => rfl) (fun h => h) ?_
    intro ro dp n0 B ρ0 ρ1 st hs K a w hdf hl h hH hT
    -- no jumps
    have plain : ∀ {c : Code}, c.wpIn (rnd ro) dp P (LeftE ρ0 B w a.defers (noJmp K)) a w → passesIn (rnd ro) dp P body (LeftE ρ0 B w a.defers K) 1 c a w := fun hw => by
      refine wpIn_mono hw fun e a' w' he => ?_
      obtain ⟨x', ρ1', st', hs', B2, hex, hk, hT', hH', hd, hb⟩ := he
      cases x' with
      | goto _ => exact False.elim hk
      | normal => cases e with
        | normal => exact ⟨.normal, ρ1', st', hs', B2, trivial, hk, hT', hH', hd, hb⟩
        | _ => exact hex.elim
      | ret => cases e with
        | ret => exact ⟨.ret, ρ1', st', hs', B2, trivial, hk, hT', hH', hd, hb⟩
        | _ => exact hex.elim
      | exit j => cases e with
        | exit i => exact ⟨.exit j, ρ1', st', hs', B2, hex, hk, hT', hH', hd, hb⟩
        | _ => exact hex.elim
    unfold ev at h
    split at h
    · rename_i l α p0 Φ I μ M0 M hs' hs
      by_cases hG : ∀ p, I p → ev C P n0 body (.beh l) (Φ p) (hs' p) (jmpEnd n0 l M (fun T => ∃ p', T = Φ p' ∧ I p' ∧ μ p' < μ p) (noJmp K))
      · have key : ∀ (n : Nat) {B1 : Gd} {p : α} {c : Code} {a1 : Act} {w1 : World}, μ p ≤ n → c.wpIn (rnd ro) dp P (LeftE ρ0 B1 w1 a1.defers (jmpEnd n0 l M (fun T => ∃ p', T = Φ p' ∧ I p' ∧ μ p' < μ p) (noJmp K))) a1 w1 →
            Mk B B1 a.defers a1.defers w1 → Bel B w w1 → passesIn (rnd ro) dp P body (LeftE ρ0 B w a.defers K) (n + 1) c a1 w1 := by
          intro n
          induction n with
          | zero =>
            intro B1 p c a1 w1 hle hw hd hb
            refine wpIn_mono hw fun e a' w' he => ?_
            obtain ⟨x', ρ1', st', hs', B2, hex, hk, hT', hH', hd', hb'⟩ := he
            cases x' with
            | goto j =>
              unfold jmpEnd at hk
              dsimp only at hk
              split at hk
              · split at hk
                · obtain ⟨p', _, _, hlt⟩ := hk
                  omega
                · exact hk.elim
              · exact hk.elim
            | normal => cases e with
              | normal => exact ⟨.normal, ρ1', st', hs', B2, trivial, hk, hT', hH', hd.trans hd' hb', hb.trans (hb'.mono hd.le)⟩
              | _ => exact hex.elim
            | ret => cases e with
              | ret => exact ⟨.ret, ρ1', st', hs', B2, trivial, hk, hT', hH', hd.trans hd' hb', hb.trans (hb'.mono hd.le)⟩
              | _ => exact hex.elim
            | exit j => cases e with
              | exit i => exact ⟨.exit j, ρ1', st', hs', B2, hex, hk, hT', hH', hd.trans hd' hb', hb.trans (hb'.mono hd.le)⟩
              | _ => exact hex.elim
          | succ n ihn =>
            intro B1 p c a1 w1 hle hw hd hb
            refine wpIn_mono hw fun e a' w' he => ?_
            obtain ⟨x', ρ1', st', hs2, B2, hex, hk, hT', hH', hd', hb'⟩ := he
            cases x' with
            | goto j => cases e with
              | goto i =>
                have hij : i = j := hex
                subst hij
                unfold jmpEnd at hk
                dsimp only at hk
                split at hk
                · rename_i hj
                  obtain rfl := of_decide_eq_true hj
                  split at hk
                  · rename_i T hwk
                    obtain ⟨p', rfl, hI', hlt⟩ := hk
                    obtain ⟨ρ3, hH3, hT3⟩ := weak_rel hwk hl hH' hT'
                    have hp := hG p' hI'
                    have hs := beh_some hp
                    rw [onSpine_eq] at hs
                    obtain ⟨d, hd0⟩ := Option.isSome_iff_exists.1 hs
                    exact ⟨d, hd0, ihn (by omega) (ih.2.1 _ d hd0 hdf hl hp hH3 hT3) (hd.trans hd' hb') (hb.trans (hb'.mono hd.le))⟩
                  · exact hk.elim
                · exact hk.elim
              | _ => exact hex.elim
            | normal => cases e with
              | normal => exact ⟨.normal, ρ1', st', hs2, B2, trivial, hk, hT', hH', hd.trans hd' hb', hb.trans (hb'.mono hd.le)⟩
              | _ => exact hex.elim
            | ret => cases e with
              | ret => exact ⟨.ret, ρ1', st', hs2, B2, trivial, hk, hT', hH', hd.trans hd' hb', hb.trans (hb'.mono hd.le)⟩
              | _ => exact hex.elim
            | exit j => cases e with
              | exit i => exact ⟨.exit j, ρ1', st', hs2, B2, hex, hk, hT', hH', hd.trans hd' hb', hb.trans (hb'.mono hd.le)⟩
              | _ => exact hex.elim
        refine wpIn_scope (μ p0 + 1) (key (μ p0) (p := p0) (Nat.le_refl _) (ih.2.2 (M0 := M0) hdf hl h hH hT (fun e s hs2 hne hk => ?_) fun s hs2 hk => ?_) (.refl _ _ _) (Bel.refl _ _))
        · cases e with
          | normal => exact absurd rfl hne
          | goto _ => exact False.elim hk
          | ret => exact hk
          | exit _ => exact hk
        · obtain ⟨hk, _⟩ := hk
          split at hk
          · rename_i T hw
            obtain ⟨rfl, hI0⟩ := hk
            exact ⟨_, _, hw, hG p0 hI0⟩
          · exact hk.elim
      · refine wpIn_scope 1 (plain (ih.2.2 (M0 := M0) hdf hl h hH hT (fun e s hs2 hne hk => ?_) fun s hs2 hk => absurd hk.2 hG))
        cases e with
        | normal => exact absurd rfl hne
        | goto _ => exact False.elim hk
        | ret => exact hk
        | exit _ => exact hk
    · exact wpIn_scope 1 (plain (ih.1 hdf hl h hH hT))
  | goto l =>
    refine snd_plain (fun _ => rfl) (fun h => h) ?_
    intro ro dp n0 B ρ0 ρ1 st hs K a w hdf hl h hH hT
    exact wpIn_goto ⟨.goto l, ρ1, st, hs, B, rfl, h, hT, hH, .refl _ _ _, Bel.refl _ _⟩
  | refuse r =>
    refine snd_plain (fun _ => rfl) (fun h => h) ?_
    intro ro dp n0 B ρ0 ρ1 st hs K a w hdf hl h
    exact False.elim h

theorem ev_sound {C : Call} (hC : COK P false C) (hm : P.follows .mixedOrders = true) (c : Code) {ro : Option Nat} {dp n0 : Nat} {B : Gd} {ρ0 ρ1 : List Loc} {st : St} {hs : List Hint} {K : Ex → St → List Hint → Prop} {a : Act} {w : World}
    (hdf : ro = none ∨ noDef c = true) (hl : ρ0.length = n0) (h : ev C P n0 c .all st hs K) (hH : HpR B (ρ0 ++ ρ1) st.h w) (hT : TmpsR (ρ0 ++ ρ1) st.t a) : c.wpIn (rnd ro) dp P (LeftE ρ0 B w a.defers K) a w := (ev_snd hC hm c).1 hdf hl h hH hT

def resSem (tmps : Array Value) : ResultVar → Sem Value
  | .tmp t => pure (tmps.getD t undef)
  | .cell p t => do loadVar t (← asAddr (tmps.getD p undef))

theorem results_eq (fn : Func) (tmps : Array Value) : results fn tmps = (do
    let vs ← fn.results.mapM (resSem tmps)
    pure (if h : vs.size = 1 then vs[0] else .tuple vs)) := by
  unfold results
  congr 1

theorem resOne_sound {B : Gd} {ρ : List Loc} {st : St} {r : ResultVar} {x : AV} {a : Act} {w : World} (h : resOne P st r = some x) (hH : HpR B ρ st.h w) (hT : TmpsR ρ st.t a) :
    ∃ u, AVR ρ x u ∧ (resSem a.tmps r).run P w = .ok u w := by
  have hop := hT.op
  cases r with
  | tmp t => simp only [resOne, Option.some.injEq] at h; subst h; exact ⟨_, hop (.tmp t), rfl⟩
  | cell p t =>
    simp only [resOne] at h
    have hx := hop (.tmp p)
    simp only [St.op, Act.eval] at hx
    split at h
    · rename_i r i o hp
      rw [hp] at hx
      obtain ⟨l, hl, he⟩ := ptr_inv hx
      split at h
      · rename_i k hk
        obtain ⟨u, hu, hr⟩ := read_sound (hH.blk r k l hk hl) h
        refine ⟨u, hu, ?_⟩
        simp only [resSem, he, asAddr, Sem.run_bind, Sem.run_pure, Result.andThen_ok]
        exact hr w rfl
      · simp at h
    · simp at h

theorem resList_sound {B : Gd} {ρ : List Loc} {st : St} {a : Act} {w : World} (hH : HpR B ρ st.h w) (hT : TmpsR ρ st.t a) : ∀ {rs : List ResultVar} {xs : List AV}, allSome (rs.map (resOne P st)) = some xs →
    ∃ us, AVRs ρ xs us ∧ (rs.mapM (resSem a.tmps)).run P w = .ok us w
  | [], xs, h => by simp [allSome] at h; subst h; exact ⟨[], .nil, by simp⟩
  | r :: rs, xs, h => by
    simp only [List.map_cons] at h
    cases hr : resOne P st r with
    | none => simp [hr, allSome] at h
    | some x =>
      simp only [hr, allSome] at h
      split at h
      · rename_i r' hr'
        simp at h; subst h
        obtain ⟨u, hu, h1⟩ := resOne_sound hr hH hT
        obtain ⟨us, hus, h2⟩ := resList_sound hH hT hr'
        refine ⟨u :: us, .cons hu hus, ?_⟩
        rw [List.mapM_cons, Sem.run_bind, h1, Result.andThen_ok, Sem.run_bind, h2]
        rfl
      · simp at h

theorem resAll_sound {B : Gd} {ρ : List Loc} {st : St} {a : Act} {w : World} {fn : Func} {x : AV} (h : resAll P st fn.results.toList = some x) (hH : HpR B ρ st.h w) (hT : TmpsR ρ st.t a) :
    ∃ u, AVR ρ x u ∧ (results fn a.tmps).run P w = .ok u w := by
  unfold resAll at h
  have conv : ∀ us : List Value, (fn.results.toList.mapM (resSem a.tmps)).run P w = .ok us w →
      (results fn a.tmps).run P w = .ok (if h : us.toArray.size = 1 then us.toArray[0] else .tuple us.toArray) w := by
    intro us hus
    rw [results_eq, Sem.run_bind, Array.mapM_eq_mapM_toList, Sem.run_map, hus]
    rfl
  split at h
  · rename_i v hv
    simp at h; subst h
    obtain ⟨us, hus, hr⟩ := resList_sound hH hT hv
    cases hus with
    | cons h0 h1 => cases h1 with
      | nil => exact ⟨_, h0, by rw [conv _ hr]; simp⟩
  · rename_i vs hne hv
    simp at h; subst h
    obtain ⟨us, hus, hr⟩ := resList_sound hH hT hv
    refine ⟨_, .tuple hus, ?_⟩
    rw [conv _ hr]
    have hl := hus.length
    rw [dif_neg]
    intro h1
    have h2 : us.length = 1 := by simpa using h1
    match vs, hl.trans h2 with
    | [v], _ => exact hne v rfl
  · simp at h

def noNG (P : Program) : Bool := P.funcs.toList.all fun fn => fn.name != "runtime.NumGoroutine"

theorem evFn_ok {C : Call} (hC : COK P false C) (hm : P.follows .mixedOrders = true) (hg : noNG P = true) : COK P false (evFn C P) := by
  refine ⟨hC.maps, ?_⟩
  intro f args h hs K hK B ρ w vs hH hv
  unfold evFn at hK
  split at hK
  · exact hK.elim
  · rename_i fn hfn
    split at hK
    · exact hK.elim
    · rename_i c hbody
      split at hK
      · exact hK.elim
      · rename_i hle
        have hle := of_decide_eq_true hle
        refine .inl ⟨?_, ?_⟩
        · have hname : ¬ fn.name = "runtime.NumGoroutine" := by
            have hmem : fn ∈ P.funcs.toList := List.mem_of_getElem? (i := f) (by simpa using hfn)
            have := List.all_eq_true.1 hg fn hmem
            simpa [bne] using this
          simp [callFunc, hfn, hname, hbody]
        · refine callsIn_wide.1 (callsIn_of_wp_marks (F := Fence.wide) (n := 0) hfn hbody trivial ?_)
          have hT : TmpsR (ρ ++ []) (args ++ List.replicate (fn.ntmps - args.length) (.lit undef)) { tmps := vs.toArray ++ Array.replicate (fn.ntmps - vs.toArray.size) undef, defers := [] } := by
            rw [List.append_nil]
            have hl := hv.length
            refine ⟨by simp [hl], fun i x hx => ?_⟩
            by_cases hi : i < args.length
            · rw [List.getElem?_append_left hi] at hx
              obtain ⟨v, hv', hr⟩ := hv.get hx
              exact ⟨v, by simp only; rw [Array.getElem?_append_left (by simpa [← hl] using hi)]; simpa using hv', hr⟩
            · have hlt := (List.getElem?_eq_some_iff.1 hx).1
              rw [List.getElem?_append_right (by omega)] at hx
              rw [List.getElem?_replicate] at hx
              split at hx
              · rename_i h2
                cases hx
                refine ⟨undef, ?_, .lit _⟩
                simp only
                rw [Array.getElem?_append_right (by simp; omega), Array.getElem?_replicate, if_pos (by simp; omega)]
              · simp at hx
          refine wpIn_mono (ev_sound (ro := none) (dp := 0) hC hm c (.inl rfl) hH.len hK (by simpa using hH) hT) fun e a' w' he => ?_
          obtain ⟨x, ρ1, st', hs', B', hex, hk, hT', hH', hd, hb⟩ := he
          have fin : (match resAll P st' fn.results.toList with | some v => K v st'.h hs' | none => False) → LeavesInM Fence.wide 0 P fn a'.tmps (fun e w' => match e with
              | .returned v => ∃ ρ' x h' hs', K x h' hs' ∧ AVR (ρ ++ ρ') x v ∧ HpR B (ρ ++ ρ') h' w' ∧ Bel (if false = true then bl w.heap.size else B) w w' ∧ (false = true → h <+: h')
              | _ => False) a'.defers .returning w' := by
            intro hk
            split at hk
            · rename_i v hv'
              obtain ⟨le, Ds, e1, nd, hD⟩ := hd
              rw [e1, List.append_nil]
              refine leaves_marks Ds w' nd (fun D hm => (hD D hm).2.2) fun w2 hkc hbl => ?_
              have hH2 : HpR B' (ρ ++ ρ1) st'.h w2 := hH'.keptC hkc
              obtain ⟨u, hu, hr⟩ := resAll_sound hv' hH2 hT'
              have hb2 := hbl B fun D hm => (hD D hm).2.1
              exact ⟨u, hr, ρ1, v, _, hs', hk, hu, hH2.guard le (hH.glob.below hb |>.below hb2), by simpa using hb.trans hb2, by simp⟩
            · exact hk.elim
          cases e with
          | normal => cases x with
            | normal => exact fin hk
            | exit _ => exact hex.elim
            | ret => exact hex.elim
            | goto _ => exact hex.elim
          | ret => cases x with
            | ret => exact fin hk
            | normal => exact hex.elim
            | exit _ => exact hex.elim
            | goto _ => exact hex.elim
          | exit i => cases x with
            | exit j => exact hk.elim
            | normal => exact hex.elim
            | ret => exact hex.elim
            | goto _ => exact hex.elim
          | goto l => cases x with
            | goto j => exact False.elim hk
            | normal => exact hex.elim
            | exit _ => exact hex.elim
            | ret => exact hex.elim
          | panic c => cases x <;> exact hex.elim
          | outgrown => cases x <;> exact hex.elim

/-- A specification holds of function f. -/
def SpecOK (P : Program) (f : FuncId) (sp : Spec) : Prop :=
  ∀ args h K, sp args h K → ∀ B ρ w vs, HpR B ρ h w → AVRs ρ args vs →
    CallsX P f vs.toArray w fun u w' => ∃ ρ' x h', K x h' ∧ AVR (ρ ++ ρ') x u ∧ HpR B (ρ ++ ρ') h' w' ∧ Bel B w w'

/-- What is asked of the program as a whole. -/
structure Fol (P : Program) : Prop where
  mixed : P.follows .mixedOrders = true
  maps : MapsOK P

theorem callN_ok {O : FuncId → Option Spec} (hO : ∀ f sp, O f = some sp → SpecOK P f sp) (hm : Fol P) (hg : noNG P = true) : ∀ n, COK P false (callN O P n)
  | 0 => ⟨hm.maps, fun _ _ _ _ _ h => h.elim⟩
  | n + 1 => by
    refine ⟨hm.maps, ?_⟩
    intro f args h hs K hK B ρ w vs hH hv
    unfold callN at hK
    split at hK
    · rename_i sp hsp
      have conv : ∀ u w', (∃ ρ' x h', K x h' hs ∧ AVR (ρ ++ ρ') x u ∧ HpR B (ρ ++ ρ') h' w' ∧ Bel B w w') →
          ∃ ρ' x h' hs', K x h' hs' ∧ AVR (ρ ++ ρ') x u ∧ HpR B (ρ ++ ρ') h' w' ∧ Bel (if false = true then bl w.heap.size else B) w w' ∧ (false = true → h <+: h') := by
        rintro u w' ⟨ρ', x, h', k, r, hh, b⟩
        exact ⟨ρ', x, h', hs, k, r, hh, by simpa using b, by simp⟩
      rcases hO f sp hsp args h _ hK B ρ w vs hH hv with ⟨hr, hc⟩ | ⟨v, w', hr, hl⟩
      · exact .inl ⟨hr, hc.mono fun e w' he => by cases e with
          | returned v => exact conv v w' he
          | panicked c => exact he
          | outgrown => exact he⟩
      · exact .inr ⟨v, w', hr, conv v w' hl⟩
    · exact evFn_ok (callN_ok hO hm hg n) hm.mixed hg f args h hs K hK B ρ w vs hH hv

end
end Go.Sx
