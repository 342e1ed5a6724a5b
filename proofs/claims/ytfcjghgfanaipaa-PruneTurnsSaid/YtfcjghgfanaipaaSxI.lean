/-
  The calculus (SxA): operations together, regions.
-/
import Derived.Test.YtfcjghgfanaipaaSxH
namespace Go.Sx
open Go.RowKit

section
variable {P : Program}

theorem liftV_list (v : Value) : (liftV v).cells = v.cells.toList.map .lit := by
  cases v <;> simp [liftV, AV.cells, Value.cells]

theorem rowIs_cells {ρ : List Loc} {f : Bool} {cs : List AV} {vs : List Value} (h : cs = vs.map .lit) (hall : cs.all AV.cell1 = true) : RowIs ρ f 1 cs vs := by
  subst h
  intro i e he
  have hm := List.all_eq_true.1 hall e (List.mem_of_getElem? he)
  rw [List.getElem?_map] at he
  obtain ⟨v, hv, rfl⟩ := Option.map_eq_some_iff.1 he
  have hc : (AV.lit v).cells = [.lit v] := rfl
  refine ⟨by rw [hc]; rfl, by simpa [AV.sound] using hm, fun o c ho => ?_⟩
  rw [hc] at ho
  cases o with
  | zero => simp at ho; subst ho; exact ⟨v, by simpa using hv, .lit v⟩
  | succ o => simp at ho

/-- What an operation leaves. -/
def Left (ρ : List Loc) (B N : Gd) (w : World) (h : Hp) (g : Bool) (K : AV → Hp → List Hint → Prop) (u : Value) (w' : World) : Prop :=
  ∃ ρ' x h' hs', K x h' hs' ∧ AVR (ρ ++ ρ') x u ∧ HpR B (ρ ++ ρ') h' w' ∧ Bel N w w' ∧ (g = true → h <+: h')

theorem wp_of_value {o : Oper} {a : Act} {w w' : World} {u : Value} {next : Act → World → Prop} {Q : Exit → Act → World → Prop} (hr : (execOp a.eval o).run P w = .ok (.value u) w') (h : next (a.put o.dst u) w') : o.wp P a w next Q := by
  unfold Oper.wp; rw [hr]; exact h

theorem evOp_sound {B : Gd} {ρ : List Loc} {st : St} {o : Oper} {hs : List Hint} {K : AV → Hp → List Hint → Prop} {a : Act} {w : World} {g : Bool} {C : Call} (hC : COK P g C) (hg : g = true → growing o.op = true)
    (h : evOp C P st o.op hs K) (hH : HpR B ρ st.h w) (hT : TmpsR ρ st.t a) {next : Act → World → Prop} {Q : Exit → Act → World → Prop}
    (hn : ∀ u w', Left ρ B (if g then bl w.heap.size else B) w st.h g K u w' → next (a.put o.dst u) w') : o.wp P a w next Q := by
  obtain ⟨dst, op, type, pos, after, guard⟩ := o
  dsimp only at h hg hn ⊢
  have hBg : Gd.le (if g then bl w.heap.size else B) (bl w.heap.size) := by cases g; exact hH.base; exact .refl _
  unfold evOp at h
  split at h
  · rename_i t
    split at h
    · rename_i z hz
      obtain ⟨i, zv, hi, hzv, hzs, rfl⟩ := zeroOf_info hz
      split at h
      · split at h
        · rename_i hall
          simp only [Bool.and_eq_true, decide_eq_true_eq] at hall
          obtain ⟨hall, hbig⟩ := hall
          have hcl := liftV_list zv
          have hbig : zv.cells.size ≤ 16777216 := by rw [hcl] at hbig; simpa using hbig
          have hw := hH.newRow (k := ⟨true, t, 1, (liftV zv).cells.all AV.plain1, (liftV zv).cells⟩) (cells := zv.cells) (cap := zv.cells.size) rfl (Nat.succ_ne_zero 0) (rowIs_cells (ρ := ρ) hcl hall) (by simp) (by unfold maxLen; omega) (by rw [hcl]; simp)
            (w' := w.alloc (.cells zv.cells t)) rfl rfl rfl rfl (fun _ => Nat.le_refl _)
          refine wp_of_value (u := .pointer (some ⟨w.heap.size, 0, none⟩)) (w' := w.alloc (.cells zv.cells t)) ?_ (hn _ _ ⟨_, _, _, _, h, ?_, hw.1, hw.2.mono hBg, fun _ => List.prefix_append _ _⟩)
          · simp [execOp, Instr.alloc, run_zero hi hzv, newVar, _root_.Go.newRow]
          · have := AVR.ptr (ρ := ρ ++ [⟨w.heap.size, 0, 1, zv.cells.size, false⟩]) (r := st.h.length) (i := 0) (o := 0) (st := true) (l := ⟨w.heap.size, 0, 1, zv.cells.size, false⟩) (At.new hH.len rfl)
            simpa using this
        · exact h.elim
      rename_i h0
      obtain ⟨h', s, hpre, hs, hK, hsz, hnew⟩ := newRow_sound h hH (.cons (.liftV zv) .nil) (by simp [maxLen])
      have hw := hnew (w.alloc (.cells zv.cells t)) (by simp) rfl rfl rfl (Nat.le_refl _)
      refine wp_of_value (u := .pointer (some ⟨w.heap.size, 0, none⟩)) (w' := w.alloc (.cells zv.cells t)) ?_ (hn _ _ ⟨_, _, _, _, hK, ?_, hw.1, hw.2.mono hBg, fun _ => hpre⟩)
      · simp [execOp, Instr.alloc, run_zero hi hzv, newVar, _root_.Go.newRow]
      · have := AVR.ptr (ρ := ρ ++ [⟨w.heap.size, 0, s, [liftV zv].length, false⟩]) (r := st.h.length) (i := 0) (o := 0) (st := true) (l := ⟨w.heap.size, 0, s, [liftV zv].length, false⟩) (At.new hH.len rfl)
        simpa using this
    · exact h.elim
  · rename_i t x
    obtain ⟨h', s, hpre, hs, hK, hsz, hnew⟩ := newRow_sound h hH (.cons (hT.op x) .nil) (by simp [maxLen])
    have hw := hnew (w.alloc (.cells (a.eval x).cells t)) (by simp) rfl rfl rfl (Nat.le_refl _)
    refine wp_of_value (u := .pointer (some ⟨w.heap.size, 0, none⟩)) (w' := w.alloc (.cells (a.eval x).cells t)) ?_ (hn _ _ ⟨_, _, _, _, hK, ?_, hw.1, hw.2.mono hBg, fun _ => hpre⟩)
    · simp [execOp, Instr.box, newVar, _root_.Go.newRow]
    · have := AVR.ptr (ρ := ρ ++ [⟨w.heap.size, 0, s, [st.op x].length, false⟩]) (r := st.h.length) (i := 0) (o := 0) (st := true) (l := ⟨w.heap.size, 0, s, [st.op x].length, false⟩) (At.new hH.len rfl)
      simpa using this
  · rename_i t x y
    have hgf : g = false := by cases g; rfl; simp [growing] at hg
    subst hgf
    obtain ⟨h', hs', w', hK, hr, hH', hb⟩ := store_sound h hH (hT.op x) (hT.op y)
    have hup := hn undef w' ⟨[], _, _, _, hK, .lit _, by simpa using hH', hb, by simp⟩
    unfold Oper.wp
    have : (execOp a.eval ⟨dst, Op.store t x y, type, pos, after, guard⟩).run P w = .ok .skip w' := by simp [execOp, hr]
    rw [this]
    exact hup
  · rename_i t len parts
    split at h
    · rename_i e ht
      split at h
      · rename_i s1 hix hs
        split at h
        · rename_i z hlen hz
          obtain ⟨i, zv, hi, hzv, hzs, rfl⟩ := zeroOf_info hz
          have hix := of_decide_eq_true hix
          have hlen := of_decide_eq_true hlen
          obtain ⟨i', hi', hsi⟩ := sizeAt_info hs
          rw [hi] at hi'; cases hi'
          have hpl : parts.toList.length = len := by have := congrArg List.length hix; simpa using this
          have hlm : len ≤ 2 ^ 24 := Nat.le_trans (Nat.le_mul_of_pos_right _ (Nat.succ_pos _)) hlen
          have hvs := hT.ops (parts.toList.map (·.2))
          have hvs := canon_rels hvs
          obtain ⟨h', s, hpre, hs2, hK, hsz, hnew⟩ := newRow_sound (vs := parts.toList.map fun p => a.eval p.2) h hH (by simpa [Function.comp_def] using hvs) (by simp [maxLen, hpl] at hlm ⊢; omega)
          rw [hs] at hs2; cases hs2
          have hw := hnew (w.alloc (.cells ((parts.toList.map fun p => a.eval p.2).flatMap fun v => v.cells.toList).toArray e)) rfl rfl rfl rfl (Nat.le_refl _)
          have hzip : (parts.map fun (p : Nat × Operand) => (p.1, a.eval p.2)).toList = (List.range' 0 (parts.toList.map fun p => a.eval p.2).length).zip (parts.toList.map fun p => a.eval p.2) := by
            rw [List.length_map, hpl, ← List.range_eq_range', ← hix, List.zip_map']
            cases parts; simp
          have hfill := fill_all (s1 + 1) (parts.toList.map fun p => a.eval p.2) 0 ((Array.range (len * (s1 + 1))).map (zv.cells[· % zv.cells.size]!)) hsz (by simp [hpl])
          rw [← hzip] at hfill
          have hfill' : Instr.fill (fun i => some (i * (s1 + 1), s1 + 1)) ((Array.range (len * (s1 + 1))).map (zv.cells[· % zv.cells.size]!)) (parts.map fun (p : Nat × Operand) => (p.1, a.eval p.2)).toList = some ((parts.toList.map fun p => a.eval p.2).flatMap fun v => v.cells.toList).toArray := by
            rw [hfill]
            simp only [Nat.zero_mul, List.take_zero, List.nil_append, Nat.zero_add, List.length_map, hpl]
            rw [List.drop_eq_nil_of_le (by simp), List.append_nil]
          refine wp_of_value (u := .slice (some ⟨w.heap.size, 0, none⟩) len len) (w' := w.alloc (.cells ((parts.toList.map fun p => a.eval p.2).flatMap fun v => v.cells.toList).toArray e)) ?_ (hn _ _ ⟨_, _, _, _, hK, ?_, hw.1, hw.2.mono hBg, fun _ => hpre⟩)
          · have h0 : ¬ (len * (s1 + 1) > 2 ^ 24) := by omega
            simp only [execOp, Sem.run_bind]
            have hbs : (Instr.buildSlice t len (parts.map fun (p : Nat × Operand) => (p.1, a.eval p.2))).run P w = .ok (.slice (some ⟨w.heap.size, 0, none⟩) len len) (w.alloc (.cells ((parts.toList.map fun p => a.eval p.2).flatMap fun v => v.cells.toList).toArray e)) := by
              rcases Nat.eq_zero_or_pos len with h1 | h1
              · have hp0 : parts.toList = [] := List.eq_nil_of_length_eq_zero (by omega)
                have hpe : parts = #[] := by cases parts; simp at hp0; simp [hp0]
                subst hpe; subst h1
                simp [Instr.buildSlice, run_und ht, run_size hs, Instr.fill, _root_.Go.newRow, Array.range_zero']
              · have h2 : len * (s1 + 1) ≠ 0 := Nat.ne_of_gt (Nat.mul_pos h1 (Nat.succ_pos s1))
                simp only [Instr.buildSlice, Sem.run_bind, run_und ht, Result.andThen_ok, run_size hs, h0, if_false, h2, run_zero hi hzv, Sem.run_pure, Sem.run_ite]
                rw [hfill']
                simp [_root_.Go.newRow]
            rw [hbs]
            rfl
          · have := AVR.slice (ρ := ρ ++ [⟨w.heap.size, 0, s1 + 1, (parts.toList.map fun p => canon (st.op p.2)).length, false⟩]) (r := st.h.length) (i := 0) (len := len) (st := true) (l := ⟨w.heap.size, 0, s1 + 1, (parts.toList.map fun p => canon (st.op p.2)).length, false⟩) (a := ⟨w.heap.size, 0, none⟩)
              (At.new hH.len rfl) (Nat.le_refl _) (by simp [hpl]) (fun _ => by simp)
            simpa [hpl] using this
        · exact h.elim
      · exact h.elim
    · exact h.elim
  · rename_i t l c
    split at h
    · rename_i e s k n s' k' m ht hl hc
      split at h
      · rename_i i z hi hz
        obtain ⟨i', zv, hi', hzv, hzs, rfl⟩ := zeroOf_info hz
        rw [hi] at hi'; cases hi'
        split at h
        · rename_i hsnd
          obtain ⟨⟨h0, h1, h2, h3, h4⟩, hK⟩ := need_iff h
          have hr := run_make (P := P) w t e i zv ht hi hzv k k' n m h0 h1 h3 h2
          have hnm : n.toNat ≤ m.toNat := by omega
          have hK : ∃ (x : AV) (hs' : List Hint), (∀ ρ, AVR ρ x zv) ∧ x.sound = true ∧ K (.slice st.h.length 0 n.toNat (s && s')) (st.h ++ [some ⟨true, e, i.size, x.plain, List.replicate n.toNat x⟩]) hs' := by
            split at hK
            · split at hK
              · rename_i hs2
                exact ⟨_, _, fun _ => canon_rel (.liftV zv), hs2, hK⟩
              · exact hK.elim
            · exact ⟨_, _, fun _ => .liftV zv, hsnd, hK⟩
          obtain ⟨x, hs', hx, hsx, hK⟩ := hK
          have hw := hH.newRow (k := ⟨true, e, i.size, x.plain, List.replicate n.toNat x⟩) (cells := madeCells zv.cells (m.toNat * i.size)) (cap := m.toNat) rfl (Nat.ne_of_gt h4) (rowIs_replicate hx hsx hzs h4 hnm) (by simp [size_madeCells]) (by simp only [maxLen]; omega) (by simpa using hnm)
            (w' := w.alloc (.cells (madeCells zv.cells (m.toNat * i.size)) e)) rfl rfl rfl rfl (fun _ => Nat.le_refl _)
          refine wp_of_value ?_ (hn _ _ ⟨_, _, _, _, hK, ?_, hw.1, hw.2.mono hBg, fun _ => List.prefix_append _ _⟩) (u := .slice (some ⟨w.heap.size, 0, none⟩) n.toNat m.toNat)
          · simp [execOp, asInt_rel (hT.op l) hl, asInt_rel (hT.op c) hc, hr]
          · have := AVR.slice (ρ := ρ ++ [⟨w.heap.size, 0, i.size, m.toNat, false⟩]) (r := st.h.length) (i := 0) (len := n.toNat) (st := s && s') (l := ⟨w.heap.size, 0, i.size, m.toNat, false⟩) (a := ⟨w.heap.size, 0, none⟩)
              (At.new hH.len rfl) hnm (by simp) (fun _ => by simp)
            simpa using this
        · exact h.elim
      · exact h.elim
    · exact h.elim
  · rename_i args argTypes
    have hgf : g = false := by cases g; rfl; simp [growing] at hg
    subst hgf
    split at h
    · rename_i x y t t' hargs htys
      split at h
      · rename_i e htt ht
        have htt := of_decide_eq_true htt
        subst htt
        split at h
        · rename_i i z hi hz
          obtain ⟨i', zv, hi', hzv, hzs, rfl⟩ := zeroOf_info hz
          rw [hi] at hi'; cases hi'
          split at h
          · rename_i hpos
            have hops := hT.ops args.toList
            rw [hargs] at hops
            generalize hvs : args.toList.map a.eval = vs at hops
            cases hops with
            | cons hx hops => cases hops with
              | cons hy hops => cases hops with
                | nil =>
                  rename_i u v
                  obtain ⟨ρ', a', u', h', hs', w', hK, hr, ha, hH', hb⟩ := appendW_sound (P := P) (t := t) (ty := type) ht hi hzv hzs (of_decide_eq_true hpos) h hH hx hy
                  refine wp_of_value ?_ (hn _ _ ⟨_, _, _, _, hK, ha, hH', hb, by simp⟩)
                  have e1 : args.map a.eval = #[u, v] := by
                    cases args; simp at hvs ⊢; exact hvs
                  have e2 : argTypes = #[t, t] := by cases argTypes; simp at htys ⊢; exact htys
                  simp [execOp, resolve, invoke, builtin, e1, e2, hr]
          · exact h.elim
        · exact h.elim
      · exact h.elim
    · exact h.elim
  · rename_i args argTypes
    have hgf : g = false := by cases g; rfl; simp [growing] at hg
    subst hgf
    split at h
    · rename_i x y t t' hargs htys
      split at h
      · rename_i e ht
        split at h
        · rename_i i hi
          split at h
          · rename_i hpos
            have hops := hT.ops args.toList
            rw [hargs] at hops
            generalize hvs : args.toList.map a.eval = vs at hops
            cases hops with
            | cons hx hops => cases hops with
              | cons hy hops => cases hops with
                | nil =>
                  rename_i u v
                  obtain ⟨a', u', h', hs', w', hK, hr, ha, hH', hb⟩ := copyA_sound (P := P) (t := t) (t' := t') (ty := type) ht hi (of_decide_eq_true hpos) h hH hx hy
                  refine wp_of_value ?_ (hn _ _ ⟨[], _, _, _, hK, by simpa using ha, by simpa using hH', hb, by simp⟩)
                  have e1 : args.map a.eval = #[u, v] := by
                    cases args; simp at hvs ⊢; exact hvs
                  have e2 : argTypes = #[t, t'] := by cases argTypes; simp at htys ⊢; exact htys
                  simp [execOp, resolve, invoke, builtin, e1, e2, hr]
          · exact h.elim
        · exact h.elim
      · exact h.elim
    · exact h.elim
  · rename_i f args argTypes
    split at h
    · rename_i fid first captured hop
      have hf := hT.op f
      rw [hop] at hf
      generalize hfe : a.eval f = fv at hf
      cases hf with
      | func h1 h2 =>
        rename_i va vb
        have hargs := (h1.append (hT.ops args.toList)).append h2
        have hcall := hC fid _ _ _ _ h B ρ w _ hH hargs
        have hex : (execOp a.eval ⟨dst, Op.call { callee := .value f, args, argTypes }, type, pos, after, guard⟩).run P w = (callFunc fid (va ++ args.toList.map a.eval ++ vb).toArray).run P w := by
          cases args
          simp [execOp, resolve, hfe, Deferred.ofValue, invoke]
        unfold Oper.wp
        rw [hex]
        rcases hcall with ⟨hr, hc⟩ | ⟨v, w', hr, hl⟩
        · rw [hr]
          refine Calls.mono hc fun e w' he => ?_
          cases e with
          | returned v =>
            obtain ⟨ρ', x, h', hs', hK, rest⟩ := he
            obtain ⟨hs2, hK⟩ := nameR_iff hK
            exact hn v w' ⟨ρ', x, h', hs2, hK, rest⟩
          | panicked c => exact he.elim
          | outgrown => exact he.elim
        · rw [hr]
          obtain ⟨ρ', x, h', hs', hK, rest⟩ := hl
          obtain ⟨hs2, hK⟩ := nameR_iff hK
          exact hn v w' ⟨ρ', x, h', hs2, hK, rest⟩
    · exact h.elim
  · split at h
    · obtain ⟨x, hs', u, hK, hx, hr⟩ := qOp_sound (o := ⟨dst, op, type, pos, after, guard⟩) h hH hT
      exact wp_of_value (hr w (.inr (Same.refl _ _ _))) (hn _ _ ⟨[], _, _, _, hK, by simpa using hx, by simpa using hH, Bel.refl _ _, fun _ => List.prefix_refl _⟩)
    · exact h.elim

end
end Go.Sx
