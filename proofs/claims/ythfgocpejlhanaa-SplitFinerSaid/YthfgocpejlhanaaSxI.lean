/-
  The calculus (SxA): operations together, regions.
-/
import Derived.Test.YthfgocpejlhanaaSxH
namespace Go.Sx
open Go.RowKit

/-- An object more. -/
theorem HpR.pushObj {B : Gd} {ρ : List Loc} {h : Hp} {w : World} (hH : HpR B ρ h w) {l : Loc} (hoff : l.off = 0) (hph : l.ph = false) {ty : TypeId} {es : List AV} {own : List Nat} (hob : ObjR ty es l.b own w) (hown : ∀ b ∈ own, b < w.heap.size ∧ ¬ B b)
    {o : Nat → List Nat} (hO : ObjsO o B ρ h w) (hrow : ∀ r k' l', h.row r = some k' → At ρ r l' → l'.b ∉ own) (hobj : ∀ r k' l', h.obj r = some k' → At ρ r l' → ∀ b ∈ o r, b ∉ own) :
    HpR B (ρ ++ [l]) (h ++ [some ⟨true, ty, 0, true, es⟩]) w := by
  have old : ∀ {r : Nat} {l' : Loc}, r < h.length → At (ρ ++ [l]) r l' → At ρ r l' := by
    rintro r l' hr ⟨hl, hp⟩; rw [List.getElem?_append_left (by rw [hH.len]; exact hr)] at hl; exact ⟨hl, hp⟩
  have new : ∀ {l' : Loc}, At (ρ ++ [l]) h.length l' → l' = l := by
    rintro l' ⟨hl, _⟩; rw [← hH.len, List.getElem?_append_right (Nat.le_refl _)] at hl; simpa using hl.symm
  have rowOld : ∀ {r k}, Hp.row (h ++ [some ⟨true, ty, 0, true, es⟩] : Hp) r = some k → r < h.length ∧ h.row r = some k := by
    intro r k hk
    rcases row_append hk with h | ⟨_, g⟩
    · exact h
    · cases g; exact absurd rfl (get_row.1 hk).2
  have lo : ∀ {r}, r < h.length → (if r < h.length then o r else own) = o r := fun h => if_pos h
  have hi : (if h.length < h.length then o h.length else own) = own := if_neg (Nat.lt_irrefl _)
  refine ⟨by simp [hH.len], hH.base, fun r k' l' hr hl => ?_, fun r r' k1 k2 l1 l2 hr hr' hw hrr hl1 hl2 => ?_, hH.glob, fun r => if r < h.length then o r else own, fun r k' l' hr hl => ?_, fun r r' k1 k2 l1 l2 hr hr' hl1 hl2 hww hm => ?_, fun r r' k1 k2 l1 l2 hr hr' hrr hl1 hl2 b hm hm' => ?_, fun r k' hr => ?_⟩
  rotate_left 5
  · rcases obj_append hr with ⟨_, g⟩ | ⟨e, g, _⟩
    · exact let ⟨l', hl'⟩ := hO.here r k' g; ⟨l', getElem?_app _ hl'⟩
    · subst e; exact ⟨l, At.new hH.len hph⟩
  · obtain ⟨hlt, g⟩ := rowOld hr
    exact (hH.blk r k' l' g (old hlt hl)).app _
  · obtain ⟨a1, g1⟩ := rowOld hr
    obtain ⟨a2, g2⟩ := rowOld hr'
    exact hH.sep r r' k1 k2 l1 l2 g1 g2 hw hrr (old a1 hl1) (old a2 hl2)
  · rcases obj_append hr with ⟨hlt, g⟩ | ⟨e, g, _⟩
    · rw [lo hlt]; exact hO.is r k' l' g (old hlt hl)
    · subst e; cases g; rw [hi, new hl]
      exact ⟨hob, fun b hb => (hown b hb).1, fun _ b hb => (hown b hb).2, hoff⟩
  · obtain ⟨a2, g2⟩ := rowOld hr'
    rcases obj_append hr with ⟨hlt, g⟩ | ⟨e, g, _⟩
    · rw [lo hlt] at hm; exact hO.row r r' k1 k2 l1 l2 g g2 (old hlt hl1) (old a2 hl2) hww hm
    · subst e; rw [hi] at hm; exact hrow r' k2 l2 g2 (old a2 hl2) hm
  · rcases obj_append hr with ⟨hlt, g⟩ | ⟨e, g, _⟩ <;> rcases obj_append hr' with ⟨hlt', g'⟩ | ⟨e', g', _⟩
    · rw [lo hlt] at hm; rw [lo hlt'] at hm'
      exact hO.obj r r' k1 k2 l1 l2 g g' hrr (old hlt hl1) (old hlt' hl2) b hm hm'
    · subst e'; rw [lo hlt] at hm; rw [hi] at hm'
      exact hobj r k1 l1 g (old hlt hl1) b hm hm'
    · subst e; rw [hi] at hm; rw [lo hlt'] at hm'
      exact hobj r' k2 l2 g' (old hlt' hl2) b hm' hm
    · exact hrr (e.trans e'.symm)

theorem run_makeMapO {P : Program} (t : TypeId) (w : World) : (Instr.makeMap t none).run P w = .ok (.map (some w.heap.size)) (w.alloc (.map #[] 0)) := rfl

section
variable {P : Program}

theorem liftV_list (v : Value) : (liftV v).cells = v.cells.toList.map .lit := by
  cases v <;> simp [liftV, AV.cells, Value.cells]

theorem rowIs_cells {ρ : List Loc} {f : Bool} {cs : List AV} {vs : List Value} (h : cs = vs.map .lit) (hall : cs.all AV.cell1 = true) : RowIs ρ f 1 cs vs := by
  subst h
  intro i e he
  have hm := List.all_eq_true.1 hall e (List.mem_of_getElem? he)
  rw [List.getElem?_map] at he
  obtain ⟨v, hv, rfl⟩ := Option.map_eq_some_iff.1 he
  have hc : (AV.lit v).cells = [.lit v] := rfl
  refine ⟨by rw [hc]; rfl, by simpa [AV.sound] using hm, fun o c ho => ?_⟩
  rw [hc] at ho
  cases o with
  | zero => simp at ho; subst ho; exact ⟨v, by simpa using hv, .lit v⟩
  | succ o => simp at ho

theorem rowIs_agg {ρ : List Loc} {cs : List AV} {vs : List Value} (h : AVRs ρ cs vs) (hall : cs.all AV.cell1 = true) : RowIs ρ (cs.all AV.plain1) 1 cs vs := by
  intro i e he
  have hm := List.all_eq_true.1 hall e (List.mem_of_getElem? he)
  have hc : e.cells = [e] := by cases e <;> first | rfl | (simp [AV.cell1] at hm)
  have hs : e.sound = true := by cases e <;> first | exact hm | (simp [AV.cell1] at hm)
  refine ⟨by rw [hc]; rfl, hs, fun o c ho => ?_⟩
  rw [hc] at ho
  cases o with
  | succ o => simp at ho
  | zero =>
    simp at ho
    subst ho
    obtain ⟨v, hv, hr⟩ := h.get he
    refine ⟨v, by simpa using hv, ?_⟩
    split
    · rename_i hp
      exact (AVR.plain1 (List.all_eq_true.1 hp e (List.mem_of_getElem? he)) hr).1
    · exact hr

/-- What an operation leaves. -/
def Left (ρ : List Loc) (B N : Gd) (w : World) (h : Hp) (g : Bool) (K : AV → Hp → List Hint → Prop) (u : Value) (w' : World) : Prop :=
  ∃ ρ' x h' hs', K x h' hs' ∧ AVR (ρ ++ ρ') x u ∧ HpR B (ρ ++ ρ') h' w' ∧ Bel N w w' ∧ (g = true → h <+: h')

theorem wp_of_value {o : Oper} {a : Act} {w w' : World} {u : Value} {next : Act → World → Prop} {Q : Exit → Act → World → Prop} (hr : (execOp a.eval o).run P w = .ok (.value u) w') (h : next (a.put o.dst u) w') : o.wp P a w next Q := by
  unfold Oper.wp; rw [hr]; exact h

theorem evOp_sound {B : Gd} {ρ : List Loc} {st : St} {o : Oper} {hs : List Hint} {K : AV → Hp → List Hint → Prop} {a : Act} {w : World} {g : Bool} {C : Call} (hC : COK P g C) (hg : g = true → growing o.op = true)
    (h : evOp C P st o.op hs K) (hH : HpR B ρ st.h w) (hT : TmpsR ρ st.t a) {next : Act → World → Prop} {Q : Exit → Act → World → Prop}
    (hn : ∀ u w', Left ρ B (if g then bl w.heap.size else B) w st.h g K u w' → next (a.put o.dst u) w') : o.wp P a w next Q := by
  obtain ⟨dst, op, type, pos, after, guard⟩ := o
  dsimp only at h hg hn ⊢
  have hBg : Gd.le (if g then bl w.heap.size else B) (bl w.heap.size) := by cases g; exact hH.base; exact .refl _
  unfold evOp at h
  split at h
  · rename_i t
    split at h
    · rename_i z hz
      obtain ⟨i, zv, hi, hzv, hzs, rfl⟩ := zeroOf_info hz
      split at h
      · split at h
        · rename_i hall
          simp only [Bool.and_eq_true, decide_eq_true_eq] at hall
          obtain ⟨hall, hbig⟩ := hall
          have hcl := liftV_list zv
          have hbig : zv.cells.size ≤ 16777216 := by rw [hcl] at hbig; simpa using hbig
          have hw := hH.newRow (k := ⟨true, t, 1, (liftV zv).cells.all AV.plain1, (liftV zv).cells⟩) (cells := zv.cells) (cap := zv.cells.size) rfl (Nat.succ_ne_zero 0) (rowIs_cells (ρ := ρ) hcl hall) (by simp) (by unfold maxLen; omega) (by rw [hcl]; simp)
            (w' := w.alloc (.cells zv.cells t)) rfl rfl rfl rfl (fun _ => Nat.le_refl _)
          refine wp_of_value (u := .pointer (some ⟨w.heap.size, 0, none⟩)) (w' := w.alloc (.cells zv.cells t)) ?_ (hn _ _ ⟨_, _, _, _, h, ?_, hw.1, hw.2.mono hBg, fun _ => List.prefix_append _ _⟩)
          · simp [execOp, Instr.alloc, run_zero hi hzv, newVar, _root_.Go.newRow]
          · have := AVR.ptr (ρ := ρ ++ [⟨w.heap.size, 0, 1, zv.cells.size, false⟩]) (r := st.h.length) (i := 0) (o := 0) (st := true) (l := ⟨w.heap.size, 0, 1, zv.cells.size, false⟩) (At.new hH.len rfl)
            simpa using this
        · exact h.elim
      rename_i h0
      obtain ⟨h', s, hpre, hs, hK, hsz, hnew⟩ := newRow_sound h hH (.cons (.liftV zv) .nil) (by simp [maxLen])
      have hw := hnew (w.alloc (.cells zv.cells t)) (by simp) rfl rfl rfl (Nat.le_refl _)
      refine wp_of_value (u := .pointer (some ⟨w.heap.size, 0, none⟩)) (w' := w.alloc (.cells zv.cells t)) ?_ (hn _ _ ⟨_, _, _, _, hK, ?_, hw.1, hw.2.mono hBg, fun _ => hpre⟩)
      · simp [execOp, Instr.alloc, run_zero hi hzv, newVar, _root_.Go.newRow]
      · have := AVR.ptr (ρ := ρ ++ [⟨w.heap.size, 0, s, [liftV zv].length, false⟩]) (r := st.h.length) (i := 0) (o := 0) (st := true) (l := ⟨w.heap.size, 0, s, [liftV zv].length, false⟩) (At.new hH.len rfl)
        simpa using this
    · exact h.elim
  · rename_i t x
    split at h
    · rename_i hs2 cs hx
      split at h
      · rename_i hall
        simp only [Bool.and_eq_true, decide_eq_true_eq] at hall
        obtain ⟨hall, hbig⟩ := hall
        have hxv := hT.op x
        rw [hx] at hxv
        generalize hev : a.eval x = v at hxv
        cases hxv with
        | agg hcs =>
        rename_i vs
        have hlen := hcs.length
        have hw := hH.newRow (k := ⟨true, t, 1, cs.all AV.plain1, cs⟩) (cells := vs.toArray) (cap := vs.toArray.size) rfl (Nat.succ_ne_zero 0) (rowIs_agg hcs hall) (by simp) (by simp only [List.size_toArray]; unfold maxLen; omega) (by simp; omega)
          (w' := w.alloc (.cells vs.toArray t)) rfl rfl rfl rfl (fun _ => Nat.le_refl _)
        refine wp_of_value (u := .pointer (some ⟨w.heap.size, 0, none⟩)) (w' := w.alloc (.cells vs.toArray t)) ?_ (hn _ _ ⟨_, _, _, _, h, ?_, hw.1, hw.2.mono hBg, fun _ => List.prefix_append _ _⟩)
        · simp [execOp, Instr.box, newVar, _root_.Go.newRow, hev, Value.cells]
        · have := AVR.ptr (ρ := ρ ++ [⟨w.heap.size, 0, 1, vs.toArray.size, false⟩]) (r := st.h.length) (i := 0) (o := 0) (st := true) (l := ⟨w.heap.size, 0, 1, vs.toArray.size, false⟩) (At.new hH.len rfl)
          simpa using this
      · exact h.elim
    obtain ⟨h', s, hpre, hs, hK, hsz, hnew⟩ := newRow_sound h hH (.cons (hT.op x) .nil) (by simp [maxLen])
    have hw := hnew (w.alloc (.cells (a.eval x).cells t)) (by simp) rfl rfl rfl (Nat.le_refl _)
    refine wp_of_value (u := .pointer (some ⟨w.heap.size, 0, none⟩)) (w' := w.alloc (.cells (a.eval x).cells t)) ?_ (hn _ _ ⟨_, _, _, _, hK, ?_, hw.1, hw.2.mono hBg, fun _ => hpre⟩)
    · simp [execOp, Instr.box, newVar, _root_.Go.newRow]
    · have := AVR.ptr (ρ := ρ ++ [⟨w.heap.size, 0, s, [st.op x].length, false⟩]) (r := st.h.length) (i := 0) (o := 0) (st := true) (l := ⟨w.heap.size, 0, s, [st.op x].length, false⟩) (At.new hH.len rfl)
      simpa using this
  · rename_i t x y
    have hgf : g = false := by cases g; rfl; simp [growing] at hg
    subst hgf
    obtain ⟨h', hs', w', hK, hr, hH', hb⟩ := store_sound h hH (hT.op x) (hT.op y)
    have hup := hn undef w' ⟨[], _, _, _, hK, .lit _, by simpa using hH', hb, by simp⟩
    unfold Oper.wp
    have : (execOp a.eval ⟨dst, Op.store t x y, type, pos, after, guard⟩).run P w = .ok .skip w' := by simp [execOp, hr]
    rw [this]
    exact hup
  · rename_i t
    split at h
    · rename_i hmt
      have hold : ∀ b, b < w.heap.size → (w.alloc (.map #[] 0)).heap[b]? = w.heap[b]? := fun b hb => Below.heap_alloc w _ _ hb
      have hbs : Bel (bl w.heap.size) w (w.alloc (.map #[] 0)) := ⟨⟨rfl, rfl, rfl, by simp, fun j hj => hold j hj⟩, fun _ => Nat.le_refl _⟩
      have hH1 : HpR B ρ st.h (w.alloc (.map #[] 0)) := hH.below hbs
      obtain ⟨o, hO⟩ := hH.objs
      have hO1 : ObjsO o B ρ st.h (w.alloc (.map #[] 0)) := hO.change hbs.size fun _ _ _ hk hl b hbm => hold b (hO.lt hk hl b hbm)
      have hp := hH1.pushObj (l := ⟨w.heap.size, 0, 0, 0, false⟩) rfl rfl (ty := t) (es := []) (own := [w.heap.size]) (.ext (ext_made hmt w)) (fun b hb => by
          rw [List.mem_singleton] at hb
          subst hb
          exact ⟨by simp, fun hB => Nat.lt_irrefl _ (hH.base _ hB)⟩) hO1 (fun r k' l' hk hl hm => by
          rw [List.mem_singleton] at hm
          have := (hH.blk r k' l' hk hl).lt
          omega) fun r k' l' hk hl b hb hm => by
          rw [List.mem_singleton] at hm
          have := hO.lt hk hl b hb
          omega
      refine wp_of_value (u := .map (some w.heap.size)) (w' := w.alloc (.map #[] 0)) ?_ (hn _ _ ⟨_, _, _, _, h, AVR.mp (At.new hH.len rfl), hp, hbs.mono hBg, fun _ => List.prefix_append _ _⟩)
      simp [execOp, run_makeMapO]
    · exact h.elim
  · rename_i t m x ok
    split at h
    · rename_i r v hs' hm
      split at h
      · rename_i k hk
        split at h
        · rename_i hty
          have hty := of_decide_eq_true hty
          subst hty
          obtain ⟨hl, hK⟩ := h
          have hmr := hT.op m
          rw [hm] at hmr
          generalize hme : a.eval m = mv at hmr
          cases hmr with
          | mp hat =>
            obtain ⟨o, hO⟩ := hH.objs
            obtain ⟨u, hr, hu⟩ := hC.maps.look hl (hO.is r k _ hk hat).1 (AVR.plain (hC.maps.plain hl) (canon_rel (hT.op x)))
            refine wp_of_value (u := u) (w' := w) ?_ (hn _ _ ⟨[], _, _, _, hK, hu.of_nil, by simpa using hH, Bel.refl _ _, fun _ => List.prefix_refl _⟩)
            simp [execOp, hme, hr]
        · exact h.elim
      · exact h.elim
    · exact h.elim
  · rename_i t m x y
    have hgf : g = false := by cases g; rfl; simp [growing] at hg
    subst hgf
    split at h
    · rename_i r es hs' hm
      split at h
      · rename_i k hk
        split at h
        · rename_i hc
          rw [Bool.and_eq_true] at hc
          obtain ⟨hty, hw⟩ := hc
          obtain ⟨hty, hnf⟩ := of_decide_eq_true hty
          subst hty
          obtain ⟨hl, hK⟩ := h
          have hmr := hT.op m
          rw [hm] at hmr
          generalize hme : a.eval m = mv at hmr
          cases hmr with
          | mp hat =>
            obtain ⟨o, hO⟩ := hH.objs
            obtain ⟨g1, g2, _, _⟩ := hO.is r k _ hk hat
            obtain ⟨w', own', hr, ho', hown, hb⟩ := hC.maps.upd hl g1 g2 (AVR.plain (hC.maps.plainU hl).1 (canon_rel (hT.op x))) (AVR.plain (hC.maps.plainU hl).2 (canon_rel (hT.op y)))
            obtain ⟨h1, h2⟩ := hH.mutObj hO hk hnf hat hw hb ho' fun b hbm => ⟨(hown b hbm).1, fun hx => by
              rcases (hown b hbm).2 with h3 | h3
              · exact hx.2 h3
              · exact Nat.lt_irrefl _ (Nat.lt_of_lt_of_le hx.1 h3)⟩
            have hup := hn undef w' ⟨[], _, _, _, hK, .lit _, by simpa using h1, h2, by simp⟩
            unfold Oper.wp
            have : (execOp a.eval ⟨dst, Op.mapUpdate k.ty m x y, type, pos, after, guard⟩).run P w = .ok .skip w' := by simp [execOp, hme, hr]
            rw [this]
            exact hup
        · exact h.elim
      · exact h.elim
    · exact h.elim
  · rename_i t len parts
    split at h
    · rename_i e ht
      split at h
      · rename_i s1 hix hs
        split at h
        · rename_i z hlen hz
          obtain ⟨i, zv, hi, hzv, hzs, rfl⟩ := zeroOf_info hz
          have hix := of_decide_eq_true hix
          have hlen := of_decide_eq_true hlen
          obtain ⟨i', hi', hsi⟩ := sizeAt_info hs
          rw [hi] at hi'; cases hi'
          have hpl : parts.toList.length = len := by have := congrArg List.length hix; simpa using this
          have hlm : len ≤ 2 ^ 24 := Nat.le_trans (Nat.le_mul_of_pos_right _ (Nat.succ_pos _)) hlen
          have hvs := hT.ops (parts.toList.map (·.2))
          have hvs := canon_rels hvs
          obtain ⟨h', s, hpre, hs2, hK, hsz, hnew⟩ := newRow_sound (vs := parts.toList.map fun p => a.eval p.2) h hH (by simpa [Function.comp_def] using hvs) (by simp [maxLen, hpl] at hlm ⊢; omega)
          rw [hs] at hs2; cases hs2
          have hw := hnew (w.alloc (.cells ((parts.toList.map fun p => a.eval p.2).flatMap fun v => v.cells.toList).toArray e)) rfl rfl rfl rfl (Nat.le_refl _)
          have hzip : (parts.map fun (p : Nat × Operand) => (p.1, a.eval p.2)).toList = (List.range' 0 (parts.toList.map fun p => a.eval p.2).length).zip (parts.toList.map fun p => a.eval p.2) := by
            rw [List.length_map, hpl, ← List.range_eq_range', ← hix, List.zip_map']
            cases parts; simp
          have hfill := fill_all (s1 + 1) (parts.toList.map fun p => a.eval p.2) 0 ((Array.range (len * (s1 + 1))).map (zv.cells[· % zv.cells.size]!)) hsz (by simp [hpl])
          rw [← hzip] at hfill
          have hfill' : Instr.fill (fun i => some (i * (s1 + 1), s1 + 1)) ((Array.range (len * (s1 + 1))).map (zv.cells[· % zv.cells.size]!)) (parts.map fun (p : Nat × Operand) => (p.1, a.eval p.2)).toList = some ((parts.toList.map fun p => a.eval p.2).flatMap fun v => v.cells.toList).toArray := by
            rw [hfill]
            simp only [Nat.zero_mul, List.take_zero, List.nil_append, Nat.zero_add, List.length_map, hpl]
            rw [List.drop_eq_nil_of_le (by simp), List.append_nil]
          refine wp_of_value (u := .slice (some ⟨w.heap.size, 0, none⟩) len len) (w' := w.alloc (.cells ((parts.toList.map fun p => a.eval p.2).flatMap fun v => v.cells.toList).toArray e)) ?_ (hn _ _ ⟨_, _, _, _, hK, ?_, hw.1, hw.2.mono hBg, fun _ => hpre⟩)
          · have h0 : ¬ (len * (s1 + 1) > 2 ^ 24) := by omega
            simp only [execOp, Sem.run_bind]
            have hbs : (Instr.buildSlice t len (parts.map fun (p : Nat × Operand) => (p.1, a.eval p.2))).run P w = .ok (.slice (some ⟨w.heap.size, 0, none⟩) len len) (w.alloc (.cells ((parts.toList.map fun p => a.eval p.2).flatMap fun v => v.cells.toList).toArray e)) := by
              rcases Nat.eq_zero_or_pos len with h1 | h1
              · have hp0 : parts.toList = [] := List.eq_nil_of_length_eq_zero (by omega)
                have hpe : parts = #[] := by cases parts; simp at hp0; simp [hp0]
                subst hpe; subst h1
                simp [Instr.buildSlice, run_und ht, run_size hs, Instr.fill, _root_.Go.newRow, Array.range_zero']
              · have h2 : len * (s1 + 1) ≠ 0 := Nat.ne_of_gt (Nat.mul_pos h1 (Nat.succ_pos s1))
                simp only [Instr.buildSlice, Sem.run_bind, run_und ht, Result.andThen_ok, run_size hs, h0, if_false, h2, run_zero hi hzv, Sem.run_pure, Sem.run_ite]
                rw [hfill']
                simp [_root_.Go.newRow]
            rw [hbs]
            rfl
          · have := AVR.slice (ρ := ρ ++ [⟨w.heap.size, 0, s1 + 1, (parts.toList.map fun p => canon (st.op p.2)).length, false⟩]) (r := st.h.length) (i := 0) (len := len) (st := true) (l := ⟨w.heap.size, 0, s1 + 1, (parts.toList.map fun p => canon (st.op p.2)).length, false⟩) (a := ⟨w.heap.size, 0, none⟩)
              (At.new hH.len rfl) (Nat.le_refl _) (by simp [hpl]) (fun _ => by simp)
            simpa [hpl] using this
        · exact h.elim
      · exact h.elim
    · exact h.elim
  · rename_i t l c
    split at h
    · rename_i e s k n s' k' m ht hl hc
      split at h
      · rename_i i z hi hz
        obtain ⟨i', zv, hi', hzv, hzs, rfl⟩ := zeroOf_info hz
        rw [hi] at hi'; cases hi'
        split at h
        · rename_i hsnd
          obtain ⟨⟨h0, h1, h2, h3, h4⟩, hK⟩ := need_iff h
          have hr := run_make (P := P) w t e i zv ht hi hzv k k' n m h0 h1 h3 h2
          have hnm : n.toNat ≤ m.toNat := by omega
          have hK : ∃ (x : AV) (hs' : List Hint), (∀ ρ, AVR ρ x zv) ∧ x.sound = true ∧ K (.slice st.h.length 0 n.toNat (s && s')) (st.h ++ [some ⟨true, e, i.size, x.plain, List.replicate n.toNat x⟩]) hs' := by
            split at hK
            · split at hK
              · rename_i hs2
                exact ⟨_, _, fun _ => canon_rel (.liftV zv), hs2, hK⟩
              · exact hK.elim
            · exact ⟨_, _, fun _ => .liftV zv, hsnd, hK⟩
          obtain ⟨x, hs', hx, hsx, hK⟩ := hK
          have hw := hH.newRow (k := ⟨true, e, i.size, x.plain, List.replicate n.toNat x⟩) (cells := madeCells zv.cells (m.toNat * i.size)) (cap := m.toNat) rfl (Nat.ne_of_gt h4) (rowIs_replicate hx hsx hzs h4 hnm) (by simp [size_madeCells]) (by simp only [maxLen]; omega) (by simpa using hnm)
            (w' := w.alloc (.cells (madeCells zv.cells (m.toNat * i.size)) e)) rfl rfl rfl rfl (fun _ => Nat.le_refl _)
          refine wp_of_value ?_ (hn _ _ ⟨_, _, _, _, hK, ?_, hw.1, hw.2.mono hBg, fun _ => List.prefix_append _ _⟩) (u := .slice (some ⟨w.heap.size, 0, none⟩) n.toNat m.toNat)
          · simp [execOp, asInt_rel (hT.op l) hl, asInt_rel (hT.op c) hc, hr]
          · have := AVR.slice (ρ := ρ ++ [⟨w.heap.size, 0, i.size, m.toNat, false⟩]) (r := st.h.length) (i := 0) (len := n.toNat) (st := s && s') (l := ⟨w.heap.size, 0, i.size, m.toNat, false⟩) (a := ⟨w.heap.size, 0, none⟩)
              (At.new hH.len rfl) hnm (by simp) (fun _ => by simp)
            simpa using this
        · exact h.elim
      · exact h.elim
    · exact h.elim
  · rename_i args argTypes
    have hgf : g = false := by cases g; rfl; simp [growing] at hg
    subst hgf
    split at h
    · rename_i x y t t' hargs htys
      split at h
      · rename_i e htt ht
        have htt := of_decide_eq_true htt
        subst htt
        split at h
        · rename_i i z hi hz
          obtain ⟨i', zv, hi', hzv, hzs, rfl⟩ := zeroOf_info hz
          rw [hi] at hi'; cases hi'
          split at h
          · rename_i hpos
            have hops := hT.ops args.toList
            rw [hargs] at hops
            generalize hvs : args.toList.map a.eval = vs at hops
            cases hops with
            | cons hx hops => cases hops with
              | cons hy hops => cases hops with
                | nil =>
                  rename_i u v
                  obtain ⟨ρ', a', u', h', hs', w', hK, hr, ha, hH', hb⟩ := appendW_sound (P := P) (t := t) (ty := type) ht hi hzv hzs (of_decide_eq_true hpos) h hH hx hy
                  refine wp_of_value ?_ (hn _ _ ⟨_, _, _, _, hK, ha, hH', hb, by simp⟩)
                  have e1 : args.map a.eval = #[u, v] := by
                    cases args; simp at hvs ⊢; exact hvs
                  have e2 : argTypes = #[t, t] := by cases argTypes; simp at htys ⊢; exact htys
                  simp [execOp, resolve, invoke, builtin, e1, e2, hr]
          · exact h.elim
        · exact h.elim
      · exact h.elim
    · exact h.elim
  · rename_i args argTypes
    have hgf : g = false := by cases g; rfl; simp [growing] at hg
    subst hgf
    split at h
    · rename_i x t hargs htys
      split at h
      · rename_i e ht
        split at h
        · rename_i i z hi hz
          split at h
          · rename_i hpos
            have hops := hT.ops args.toList
            rw [hargs] at hops
            generalize hvs : args.toList.map a.eval = vs at hops
            cases hops with
            | cons hx hops => cases hops with
              | nil =>
                rename_i u
                obtain ⟨h', hs', w', hK, hr, hH', hb⟩ := clearA_sound (P := P) (t := t) (ty := type) ht hi hz (of_decide_eq_true hpos) h hH hx
                refine wp_of_value ?_ (hn _ _ ⟨[], _, _, _, hK, .lit _, by simpa using hH', hb, by simp⟩)
                have e1 : args.map a.eval = #[u] := by
                  cases args; simp at hvs ⊢; exact hvs
                have e2 : argTypes = #[t] := by cases argTypes; simp at htys ⊢; exact htys
                simp [execOp, resolve, invoke, builtin, e1, e2, hr]
          · exact h.elim
        · exact h.elim
      · exact h.elim
    · exact h.elim
  · rename_i args argTypes
    have hgf : g = false := by cases g; rfl; simp [growing] at hg
    subst hgf
    split at h
    · rename_i x y t t' hargs htys
      split at h
      · rename_i e ht
        split at h
        · rename_i i hi
          split at h
          · rename_i hpos
            have hops := hT.ops args.toList
            rw [hargs] at hops
            generalize hvs : args.toList.map a.eval = vs at hops
            cases hops with
            | cons hx hops => cases hops with
              | cons hy hops => cases hops with
                | nil =>
                  rename_i u v
                  obtain ⟨a', u', h', hs', w', hK, hr, ha, hH', hb⟩ := copyA_sound (P := P) (t := t) (t' := t') (ty := type) ht hi (of_decide_eq_true hpos) h hH hx hy
                  refine wp_of_value ?_ (hn _ _ ⟨[], _, _, _, hK, by simpa using ha, by simpa using hH', hb, by simp⟩)
                  have e1 : args.map a.eval = #[u, v] := by
                    cases args; simp at hvs ⊢; exact hvs
                  have e2 : argTypes = #[t, t'] := by cases argTypes; simp at htys ⊢; exact htys
                  simp [execOp, resolve, invoke, builtin, e1, e2, hr]
          · exact h.elim
        · exact h.elim
      · exact h.elim
    · exact h.elim
  · rename_i f args argTypes
    split at h
    · rename_i fid first captured hop
      have hf := hT.op f
      rw [hop] at hf
      generalize hfe : a.eval f = fv at hf
      cases hf with
      | func h1 h2 =>
        rename_i va vb
        have hargs := (h1.append (hT.ops args.toList)).append h2
        have hcall := hC fid _ _ _ _ h B ρ w _ hH hargs
        have hex : (execOp a.eval ⟨dst, Op.call { callee := .value f, args, argTypes }, type, pos, after, guard⟩).run P w = (callFunc fid (va ++ args.toList.map a.eval ++ vb).toArray).run P w := by
          cases args
          simp [execOp, resolve, hfe, Deferred.ofValue, invoke]
        unfold Oper.wp
        rw [hex]
        rcases hcall with ⟨hr, hc⟩ | ⟨v, w', hr, hl⟩
        · rw [hr]
          refine Calls.mono hc fun e w' he => ?_
          cases e with
          | returned v =>
            obtain ⟨ρ', x, h', hs', hK, rest⟩ := he
            obtain ⟨hs2, hK⟩ := nameR_iff hK
            exact hn v w' ⟨ρ', x, h', hs2, hK, rest⟩
          | panicked c => exact he.elim
          | outgrown => exact he.elim
        · rw [hr]
          obtain ⟨ρ', x, h', hs', hK, rest⟩ := hl
          obtain ⟨hs2, hK⟩ := nameR_iff hK
          exact hn v w' ⟨ρ', x, h', hs2, hK, rest⟩
    · exact h.elim
  · rename_i args argTypes
    split at h
    · split at h
      · rename_i r t v hs' hargs htys
        split at h
        · rename_i k hk
          split at h
          · rename_i hty
            have hty := of_decide_eq_true hty
            subst hty
            obtain ⟨hl, hK⟩ := h
            have hops := hT.ops args.toList
            rw [hargs] at hops
            generalize hvs : args.toList.map a.eval = vs at hops
            cases hops with
            | cons hx hops => cases hops with
              | nil =>
                rename_i u0
                have e1 : args.map a.eval = #[u0] := by
                  cases args; simp at hvs ⊢; exact hvs
                cases hx with
                | mp hat =>
                  obtain ⟨o, hO⟩ := hH.objs
                  obtain ⟨u, hr, hu⟩ := hC.maps.len type hl (hO.is r k _ hk hat).1
                  refine wp_of_value (u := u) (w' := w) ?_ (hn _ _ ⟨[], _, _, _, hK, hu.of_nil, by simpa using hH, Bel.refl _ _, fun _ => List.prefix_refl _⟩)
                  have e2 : argTypes = #[k.ty] := by cases argTypes; simp at htys ⊢; exact htys
                  simp [execOp, resolve, invoke, builtin, e1, e2, hr]
          · exact h.elim
        · exact h.elim
      · exact h.elim
    · obtain ⟨x, hs', u, hK, hx, hr⟩ := qOp_sound (K := fun v hs => K v st.h hs) (hs := hs) (o := ⟨dst, .call { callee := .builtin .len, args, argTypes }, type, pos, after, guard⟩) h hH hT
      exact wp_of_value (hr w (.inr (Same.refl _ _ _))) (hn _ _ ⟨[], _, _, _, hK, by simpa using hx, by simpa using hH, Bel.refl _ _, fun _ => List.prefix_refl _⟩)
  · split at h
    · obtain ⟨x, hs', u, hK, hx, hr⟩ := qOp_sound (o := ⟨dst, op, type, pos, after, guard⟩) h hH hT
      exact wp_of_value (hr w (.inr (Same.refl _ _ _))) (hn _ _ ⟨[], _, _, _, hK, by simpa using hx, by simpa using hH, Bel.refl _ _, fun _ => List.prefix_refl _⟩)
    · exact h.elim

end
end Go.Sx
