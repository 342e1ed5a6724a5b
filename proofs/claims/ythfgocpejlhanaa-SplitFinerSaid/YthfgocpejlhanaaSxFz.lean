/-
  The calculus (SxA): stores of frozen slices: slices that are written no more, known by their values.
-/
import Derived.Test.YthfgocpejlhanaaSxX
namespace Go.Sx
open Go.RowKit

theorem frzAll_mem : ∀ {h : Hp} {e : AV}, e ∈ frzAll h → ∃ r k, h.obj r = some k ∧ k.ty = frzTy ∧ e ∈ k.elems
  | [], e, he => by simp [frzAll] at he
  | none :: h, e, he => by
    unfold frzAll at he
    obtain ⟨r, k, a, b⟩ := frzAll_mem he
    exact ⟨r + 1, k, by obtain ⟨a1, a2⟩ := get_obj.1 a; exact get_obj.2 ⟨by rw [List.getElem?_cons_succ]; exact a1, a2⟩, b⟩
  | some k0 :: h, e, he => by
    have go : e ∈ frzAll h → ∃ r k, Hp.obj (some k0 :: h) r = some k ∧ k.ty = frzTy ∧ e ∈ k.elems := fun he => by
      obtain ⟨r, k, a, b⟩ := frzAll_mem he
      exact ⟨r + 1, k, by obtain ⟨a1, a2⟩ := get_obj.1 a; exact get_obj.2 ⟨by rw [List.getElem?_cons_succ]; exact a1, a2⟩, b⟩
    unfold frzAll at he
    split at he
    · rename_i h1 h2
      rcases List.mem_append.1 he with he | he
      · exact ⟨0, k0, get_obj.2 ⟨rfl, h1⟩, of_decide_eq_true h2, he⟩
      · exact go he
    · exact go he

theorem fzIn_iff : ∀ {h : Hp} {e : AV}, fzIn e h ↔ e ∈ frzAll h
  | [], e => by simp [fzIn, frzAll]
  | none :: h, e => by unfold fzIn frzAll; exact fzIn_iff
  | some ⟨a, ty, z, c, es⟩ :: h, e => by
    unfold fzIn frzAll
    dsimp only
    split
    · rename_i heq
      rw [heq]
      show M.memF e es ∨ fzIn e h ↔ e ∈ es ++ frzAll h
      rw [List.mem_append, fzIn_iff]; rfl
    · exact fzIn_iff

theorem frzRow_obj : ∀ {h : Hp} {i r : Nat} {k : Blk}, frzRow i h = some (r, k) → i ≤ r ∧ h[r - i]? = some (some k) ∧ k.esz = 0 ∧ k.ty = frzTy ∧ k.wr = true
  | [], i, r, k, hm => by simp [frzRow] at hm
  | none :: h, i, r, k, hm => by
    unfold frzRow at hm
    obtain ⟨a, b, c⟩ := frzRow_obj hm
    refine ⟨by omega, ?_, c⟩
    rw [show r - i = (r - (i + 1)) + 1 by omega, List.getElem?_cons_succ]
    exact b
  | some k0 :: h, i, r, k, hm => by
    unfold frzRow at hm
    split at hm
    · rename_i h1 h2
      cases hm
      rw [Bool.and_eq_true] at h2
      exact ⟨Nat.le_refl _, by simp, h1, of_decide_eq_true h2.1, h2.2⟩
    · obtain ⟨a, b, c⟩ := frzRow_obj hm
      refine ⟨by omega, ?_, c⟩
      rw [show r - i = (r - (i + 1)) + 1 by omega, List.getElem?_cons_succ]
      exact b

theorem ObjR.store {es : List AV} {b : Nat} {own : List Nat} {w : World} (h : ObjR frzTy es b own w) : (∀ e ∈ es, FrzS own w e) ∧ ∀ x ∈ own, ∃ cur ty fr, w.heap[x]? = some (.cells cur ty fr) := by
  generalize ht : frzTy = t at h
  cases h with
  | mk h ρ o hr => subst ht; exact absurd hr reprO_frz
  | raw m hr hR => subst ht; exact absurd hr fun h => h.elim (fun h => absurd h.1 (by decide)) rawI_frz
  | ext h => subst ht; exact absurd h ext_frz
  | frz h1 h2 => exact ⟨h1, h2⟩

theorem FrzS.more {own own' : List Nat} {w : World} {e : AV} (h : FrzS own w e) (hs : ∀ b ∈ own, b ∈ own') : FrzS own' w e := by
  obtain ⟨u, z, es, rfl, hz, h⟩ := h
  refine ⟨u, z, es, rfl, hz, h.imp id ?_⟩
  rintro ⟨l, a, c, h1, h2, h3, h4, h5, h6, h7⟩
  exact ⟨l, a, c, h1, h2, h3, h4, h5, hs _ h6, h7⟩

/-- A store says more: of blocks that no writable row, and no other object, has. -/
theorem HpR.setF {B : Gd} {ρ : List Loc} {h : Hp} {w : World} (hH : HpR B ρ h w) {o : Nat → List Nat} (hO : ObjsO o B ρ h w) {q : Nat} {k : Blk} {lq : Loc} (hq : h.obj q = some k) (hty : k.ty = frzTy) (hl : At ρ q lq) {extra : List Nat}
    (hx : ∀ b ∈ extra, b < w.heap.size ∧ ¬ B b ∧ ∃ cur ty fr, w.heap[b]? = some (.cells cur ty fr)) (hrow : ∀ r' k' l', h.row r' = some k' → k'.wr = true → At ρ r' l' → l'.b ∉ extra)
    (hobj : ∀ r' k' l', r' ≠ q → h.obj r' = some k' → At ρ r' l' → ∀ b ∈ extra, b ∉ o r') {es : List AV} (hes : ∀ e ∈ es, FrzS (extra ++ o q) w e) (hw : k.wr = true) : HpR B ρ (h.set q (some ⟨true, frzTy, 0, true, es⟩)) w := by
  have rowOld : ∀ {r' k2}, Hp.row (h.set q (some ⟨true, frzTy, 0, true, es⟩)) r' = some k2 → r' ≠ q ∧ h.row r' = some k2 := by
    intro r' k2 hk2
    rcases row_set hk2 with ⟨_, g⟩ | h
    · cases g; exact absurd rfl (get_row.1 hk2).2
    · exact h
  have eq : (if q = q then extra ++ o q else o q) = extra ++ o q := if_pos rfl
  have ne : ∀ {r'}, r' ≠ q → (if r' = q then extra ++ o q else o r') = o r' := fun h => if_neg h
  obtain ⟨q1, q2, q3, q4⟩ := hO.is q k lq hq hl
  rw [hty] at q1
  refine ⟨by simp [hH.len], hH.base, fun r' k2 l' g a => hH.blk r' k2 l' (rowOld g).2 a, fun r1 r2 k1 k2 l1 l2 g1 g2 hw1 hne a1 a2 => hH.sep r1 r2 k1 k2 l1 l2 (rowOld g1).2 (rowOld g2).2 hw1 hne a1 a2, hH.glob, fun r' => if r' = q then extra ++ o q else o r', fun r' k2 l' g a => ?_, fun r1 r2 k1 k2 l1 l2 g1 g2 a1 a2 hww hm => ?_, fun r1 r2 k1 k2 l1 l2 g1 g2 hne a1 a2 b hm hm' => ?_, fun r' k2 g => ?_⟩
  rotate_left 3
  · rcases obj_set g with ⟨rfl, _⟩ | ⟨_, g⟩
    · exact ⟨lq, hl⟩
    · exact hO.here r' k2 g
  · rcases obj_set g with ⟨e, e2⟩ | ⟨hne, g'⟩
    · subst e
      have e3 := Option.some.inj e2
      subst e3
      have e4 := hl.inj a
      subst e4
      rw [eq]
      refine ⟨.frz hes fun x hxm => ?_, fun b hb => ?_, fun _ b hb => ?_, q4⟩
      · rcases List.mem_append.1 hxm with hm | hm
        · exact (hx x hm).2.2
        · exact q1.store.2 x hm
      · rcases List.mem_append.1 hb with hm | hm
        · exact (hx b hm).1
        · exact q2 b hm
      · rcases List.mem_append.1 hb with hm | hm
        · exact (hx b hm).2.1
        · exact q3 hw b hm
    · rw [ne hne]
      exact hO.is r' k2 l' g' a
  · have g3 := (rowOld g2).2
    rcases obj_set g1 with ⟨rfl, g⟩ | ⟨hne, g⟩
    · have e3 := Option.some.inj g
      subst e3
      rw [eq] at hm
      have hk2 : k2.wr = true := hww.elim (fun h => absurd rfl h) id
      rcases List.mem_append.1 hm with hm | hm
      · exact hrow r2 k2 l2 g3 hk2 a2 hm
      · exact hO.row _ r2 k k2 l1 l2 hq g3 a1 a2 (.inr hk2) hm
    · rw [ne hne] at hm
      exact hO.row r1 r2 k1 k2 l1 l2 g g3 a1 a2 hww hm
  · rcases obj_set g1 with ⟨rfl, g⟩ | ⟨hn1, g⟩ <;> rcases obj_set g2 with ⟨rfl, g'⟩ | ⟨hn2, g'⟩
    · exact hne rfl
    · rw [eq] at hm; rw [ne hn2] at hm'
      rcases List.mem_append.1 hm with hm | hm
      · exact hobj r2 k2 l2 hn2 g' a2 b hm hm'
      · exact hO.obj _ r2 k k2 l1 l2 hq g' hne a1 a2 b hm hm'
    · rw [ne hn1] at hm; rw [eq] at hm'
      rcases List.mem_append.1 hm' with hm' | hm'
      · exact hobj r1 k1 l1 hn1 g a1 b hm' hm
      · exact hO.obj r1 _ k1 k l1 l2 g hq hne a1 a2 b hm hm'
    · rw [ne hn1] at hm; rw [ne hn2] at hm'
      exact hO.obj r1 r2 k1 k2 l1 l2 g g' hne a1 a2 b hm hm'

/-- A row that is only read: it may stand in stores, and other such rows may share its block. -/
theorem HpR.pushRO {B : Gd} {ρ : List Loc} {h : Hp} {w : World} (hH : HpR B ρ h w) {k : Blk} {l : Loc} (hz : k.esz ≠ 0) (hw : k.wr = false) (hk : BlkR (ρ ++ [l]) B w l k) (hne : ∀ r k' l', h.row r = some k' → k'.wr = true → At ρ r l' → l'.b ≠ l.b) {o : Nat → List Nat} (hO : ObjsO o B ρ h w)
    (hno : ∀ r k' l', h.obj r = some k' → k'.ty ≠ frzTy → At ρ r l' → l.b ∉ o r) : HpR B (ρ ++ [l]) (h ++ [some k]) w := by
  have old : ∀ {r : Nat} {l' : Loc}, r < h.length → At (ρ ++ [l]) r l' → At ρ r l' := by
    rintro r l' hr ⟨hl, hp⟩; rw [List.getElem?_append_left (by rw [hH.len]; exact hr)] at hl; exact ⟨hl, hp⟩
  have new : ∀ {l' : Loc}, At (ρ ++ [l]) h.length l' → l' = l := by
    rintro l' ⟨hl, _⟩; rw [← hH.len, List.getElem?_append_right (Nat.le_refl _)] at hl; simpa using hl.symm
  refine ⟨by simp [hH.len], hH.base, fun r k' l' hr hl => ?_, fun r r' k1 k2 l1 l2 hr hr' hw1 hrr hl1 hl2 => ?_, hH.glob, o, fun r k' l' hr hl => ?_, fun r r' k1 k2 l1 l2 hr hr' hl1 hl2 hww => ?_, fun r r' k1 k2 l1 l2 hr hr' hrr hl1 hl2 => ?_, fun r k' hr => ?_⟩
  · rcases row_append hr with ⟨hlt, g⟩ | ⟨e, g⟩
    · exact (hH.blk r k' l' g (old hlt hl)).app _
    · subst e; cases g; rw [new hl]; exact hk
  · rcases row_append hr with ⟨hlt, g⟩ | ⟨e, g⟩ <;> rcases row_append hr' with ⟨hlt', g'⟩ | ⟨e', g'⟩
    · exact hH.sep r r' k1 k2 l1 l2 g g' hw1 hrr (old hlt hl1) (old hlt' hl2)
    · subst e'; rw [new hl2]; exact hne r k1 l1 g hw1 (old hlt hl1)
    · cases g; rw [hw] at hw1; cases hw1
    · exact absurd (e.trans e'.symm) hrr
  · rcases obj_append hr with ⟨hlt, g⟩ | ⟨_, g, g0⟩
    · exact hO.is r k' l' g (old hlt hl)
    · cases g; exact absurd g0 hz
  · rcases obj_append hr with ⟨hlt, g⟩ | ⟨_, g, g0⟩
    · rcases row_append hr' with ⟨hlt', g'⟩ | ⟨e', g'⟩
      · exact hO.row r r' k1 k2 l1 l2 g g' (old hlt hl1) (old hlt' hl2) hww
      · subst e'; cases g'
        rw [new hl2]
        exact hno r k1 l1 g (hww.elim id fun h => by rw [hw] at h; cases h) (old hlt hl1)
    · cases g; exact absurd g0 hz
  · rcases obj_append hr with ⟨hlt, g⟩ | ⟨_, g, g0⟩
    · rcases obj_append hr' with ⟨hlt', g'⟩ | ⟨_, g', g0'⟩
      · exact hO.obj r r' k1 k2 l1 l2 g g' hrr (old hlt hl1) (old hlt' hl2)
      · cases g'; exact absurd g0' hz
    · cases g; exact absurd g0 hz
  · rcases obj_append hr with ⟨_, g⟩ | ⟨_, g, g0⟩
    · exact let ⟨l', hl'⟩ := hO.here r k' g; ⟨l', getElem?_app _ hl'⟩
    · cases g; exact absurd g0 hz

/-- A temporary said in other words. -/
theorem TmpsR.re {ρ : List Loc} {ts : List AV} {a : Act} (hT : TmpsR ρ ts a) {d : Nat} {x : AV} (hx : ∀ v, AVR ρ (ts.getD d .any) v → d < ts.length → a.tmps[d]? = some v → AVR ρ x v) : TmpsR ρ (ts.set d x) a := by
  refine ⟨by simp [hT.len], fun i y hy => ?_⟩
  by_cases hd : d = i
  · subst hd
    have hlt : d < ts.length := by simpa using (List.getElem?_eq_some_iff.1 hy).1
    simp [hlt] at hy
    subst hy
    obtain ⟨v, hv, hr⟩ := hT.get d ts[d] (List.getElem?_eq_getElem hlt)
    exact ⟨v, hv, hx v (by rw [List.getD_eq_getElem?_getD, List.getElem?_eq_getElem hlt]; exact hr) hlt hv⟩
  · rw [List.getElem?_set_ne hd] at hy
    exact hT.get i y hy

theorem nameT_sound {B : Gd} {ρ : List Loc} {st : St} {d z : Nat} {es : List AV} {K : St → Prop} {a : Act} {w : World} (h : nameT st d z es K) (hH : HpR B ρ st.h w) (hT : TmpsR ρ st.t a) :
    ∃ ρ' st', K st' ∧ HpR B (ρ ++ ρ') st'.h w ∧ TmpsR (ρ ++ ρ') st'.t a := by
  unfold nameT at h
  split at h
  · rename_i z u hd
    obtain ⟨hm, hk⟩ := h
    rw [fSt_eq] at hk
    obtain ⟨r, k, ho, hty, he⟩ := frzAll_mem (fzIn_iff.1 hm)
    obtain ⟨o, hO⟩ := hH.objs
    obtain ⟨l0, hl0⟩ := hO.here r k ho
    have hob := (hO.is r k l0 ho hl0).1
    rw [hty] at hob
    obtain ⟨u', z', es', e0, hz, hf⟩ := hob.store.1 _ he
    simp only [M.fzE, AV.tuple.injEq, List.cons.injEq, AV.val.injEq, AV.lit.injEq, Value.int.injEq, true_and] at e0
    obtain ⟨rfl, e1, rfl⟩ := e0
    have e1 : z + 1 = z' := by omega
    subst e1
    rcases hf with ⟨rfl, rfl⟩ | ⟨l, ad, c, h1, rfl, h3, h4, h5, h6, h7⟩
    · refine ⟨[⟨0, 0, 0, 0, true⟩], _, hk, hH.pushPh _ (Nat.succ_ne_zero _) rfl, (hT.app _).re fun v hv _ _ => ?_⟩
      rw [hd] at hv
      cases hv
      exact .vslN rfl
    · refine ⟨[l], _, hk, hH.pushRO (k := ⟨false, 0, z + 1, true, es⟩) (Nat.succ_ne_zero _) rfl ?_ (fun r' k' l' g hw a' e => ?_) hO (fun r' k' l' g hne a' hm' => ?_), (hT.app _).re fun v hv _ _ => ?_⟩
      · obtain ⟨q1, cur, ty, fr, q2, q3, q4⟩ := h7
        exact ⟨q1, cur, ty, fr, q2, q3, fun h => by cases h⟩
      · exact hO.row r r' k k' l0 l' ho g hl0 a' (.inr hw) (e ▸ h6)
      · exact hO.obj r' r k' k l' l0 g ho (fun e => by subst e; rw [ho] at g; cases g; exact hne hty) a' hl0 l.b hm' h6
      · rw [hd] at hv
        cases hv
        exact .vslS (At.new hH.len h1) h3 (by omega) fun h => by rw [h5 h, Nat.zero_mul, Nat.add_zero]
  · exact h.elim

theorem ghostT_sound {B : Gd} {ρ : List Loc} {d : Option Tmp} {st : St} {hs : List Hint} {K : St → List Hint → Prop} {a : Act} {w : World} (h : ghostT d st hs K) (hH : HpR B ρ st.h w) (hT : TmpsR ρ st.t a) :
    ∃ ρ' st' hs', K st' hs' ∧ HpR B (ρ ++ ρ') st'.h w ∧ TmpsR (ρ ++ ρ') st'.t a := by
  have same : ∀ {hs'}, K st hs' → ∃ ρ' st' hs', K st' hs' ∧ HpR B (ρ ++ ρ') st'.h w ∧ TmpsR (ρ ++ ρ') st'.t a := fun hk => ⟨[], st, _, hk, by simpa using hH, by simpa using hT⟩
  have absS : ∀ {d z : Nat} {es : List AV} {K' : Value → St → Prop}, 0 < z → absT st d z es K' → ∃ u st', K' u st' ∧ HpR B ρ st'.h w ∧ TmpsR ρ st'.t a := by
    intro d z es K' hz h
    unfold absT at h
    have key : ∀ {q : Nat} {k : Blk} {r n : Nat} {s : Bool}, frzRow 0 st.h = some (q, k) → (AVR ρ (st.t.getD d .any) = AVR ρ (.vsl r 0 n) ∨ AVR ρ (st.t.getD d .any) = AVR ρ (.slice r 0 n s)) → d < st.t.length → ∀ {kr : Blk}, st.h.row r = some kr → kr.wr = true → kr.flat = true → kr.esz = z → n = es.length → kr.elems.take n = es →
        (∀ A c, K' (.slice A n c) ⟨st.t.set d (.val (.slice A n c)), (st.h.set r none).set q (some ⟨true, frzTy, 0, true, M.catF k.elems [M.fzE (.slice A n c) z es]⟩)⟩) → ∃ u st', K' u st' ∧ HpR B ρ st'.h w ∧ TmpsR ρ st'.t a := by
      intro q k r n s hq hv hd kr hkr hw hfl hez hn hes hK
      obtain ⟨v, hav, hrel⟩ := hT.get d _ (List.getElem?_eq_getElem hd)
      have hrel : AVR ρ (st.t.getD d .any) v := by rw [List.getD_eq_getElem?_getD, List.getElem?_eq_getElem hd]; exact hrel
      obtain ⟨_, hq1, hq2, hq3, hq4⟩ := frzRow_obj hq
      have hqo : st.h.obj q = some k := get_obj.2 ⟨by rw [Nat.sub_zero] at hq1; exact hq1, hq2⟩
      obtain ⟨o, hO⟩ := hH.objs
      obtain ⟨lq, hlq⟩ := hO.here q k hqo
      have shape : ∃ A c, v = .slice A n c := by
        rcases hv with hv | hv
        · rw [hv] at hrel
          rcases vsl_inv hrel with ⟨h0, rfl⟩ | hr
          · exact ⟨none, 0, by rw [h0]⟩
          · obtain ⟨l, ad, c, _, _, _, _, e⟩ := slice_inv (hr true)
            exact ⟨_, _, e⟩
        · rw [hv] at hrel
          obtain ⟨l, ad, c, _, _, _, _, e⟩ := slice_inv hrel
          exact ⟨_, _, e⟩
      obtain ⟨vA, vc, hvs⟩ := shape
      refine ⟨_, _, hK vA vc, ?_, hT.re fun v' h1 _ h3 => ?_⟩
      · rw [← hvs]
        have hk0 := hH.kill r
        have hO2 : ObjsO o B ρ (st.h.set r none) w := hO.same (fun r k hk => (obj_set hk).elim (fun h => by cases h.2) fun h => h.2) fun r k hk => ⟨k, ((row_set hk).elim (fun h => by cases h.2) fun h => h.2), id⟩
        have hqr : q ≠ r := fun e => by subst e; exact row_ne_obj hkr hqo
        have hqo2 : Hp.obj (st.h.set r none) q = some k := get_obj.2 ⟨by rw [List.getElem?_set_ne (Ne.symm hqr)]; exact (get_obj.1 hqo).1, hq2⟩
        have nr : ∀ {r' k'}, Hp.row (st.h.set r none) r' = some k' → r' ≠ r ∧ st.h.row r' = some k' := fun hk => (row_set hk).elim (fun h => by cases h.2) fun h => h
        have old : ∀ e ∈ k.elems, FrzS (o q) w e := by
          have := (hO.is q k lq hqo hlq).1
          rw [hq3] at this
          exact this.store.1
        -- a slice that is nil, or one that lies in the row
        have two : (v = .slice none 0 0 ∧ n = 0) ∨ ∃ l ad c, At ρ r l ∧ n ≤ c ∧ c ≤ l.cap - 0 ∧ (0 < c → ad = ⟨l.b, l.off + 0 * l.esz, none⟩) ∧ v = .slice (some ad) n c := by
          rcases hv with hv | hv
          · rw [hv] at hrel
            rcases vsl_inv hrel with ⟨h0, rfl⟩ | hr
            · exact .inl ⟨rfl, h0⟩
            · exact .inr (slice_inv (hr true))
          · rw [hv] at hrel
            exact .inr (slice_inv hrel)
        rcases two with ⟨rfl, h0⟩ | ⟨l, ad, c, hl, g1, gc, g2, rfl⟩
        · have he : es = [] := by rw [← hes, h0]; rfl
          refine hk0.setF hO2 (extra := []) hqo2 hq3 hlq (fun b hb => by cases hb) (fun _ _ _ _ _ _ h => by cases h) (fun _ _ _ _ _ _ b hb => by cases hb) (fun e hee => ?_) hq4
          rcases List.mem_append.1 hee with hee | hee
          · exact old e hee
          · rw [List.mem_singleton] at hee
            subst hee
            exact ⟨_, _, _, rfl, hz, .inl ⟨rfl, he⟩⟩
        · have hb := hH.blk r kr l hkr hl
          obtain ⟨cur, ty, fr, c1, c2, c3⟩ := hb.row
          obtain ⟨d0, d1, d2, d3, d4, d5, d6⟩ := c3 hw
          refine hk0.setF hO2 (extra := [l.b]) hqo2 hq3 hlq (fun b hbm => ?_) (fun r' k' l' g hw' a' hm => ?_) (fun r' k' l' hne g a' b hbm => ?_) (fun e hee => ?_) hq4
          · rw [List.mem_singleton.1 hbm]
            exact ⟨hb.lt, d5, cur, ty, fr, c1⟩
          · obtain ⟨n1, n2⟩ := nr g
            exact hH.sep r r' kr k' l l' hkr n2 hw (Ne.symm n1) hl a' (List.mem_singleton.1 hm).symm
          · rw [List.mem_singleton.1 hbm]
            have g' : st.h.obj r' = some k' := (obj_set g).elim (fun h => by cases h.2) fun h => h.2
            exact hO.row r' r k' kr l' l g' hkr a' hl (.inr hw)
          · rcases List.mem_append.1 hee with hee | hee
            · exact (old e hee).more fun b hb => List.mem_append_right _ hb
            · rw [List.mem_singleton] at hee
              subst hee
              refine ⟨_, _, _, rfl, hz, .inr ⟨l, ad, c, hl.2, by rw [← hn], by omega, by omega, fun h => by rw [g2 h, Nat.zero_mul, Nat.add_zero], List.mem_append_left _ List.mem_cons_self, ?_⟩⟩
              refine ⟨hb.esz.trans hez, cur, ty, fr, c1, fun i e he => ?_, fun h => by cases h⟩
              have he' : kr.elems[i]? = some e := by
                have he : es[i]? = some e := he
                rw [← hes, List.getElem?_take] at he
                split at he
                · exact he
                · cases he
              obtain ⟨p1, p2, p3⟩ := c2 i e he'
              rw [hfl] at p3
              exact ⟨p1.trans hez, p2, fun o' c' hc' => by rw [← hez]; exact p3 o' c' hc'⟩
      · rw [hav] at h3
        rw [← Option.some.inj h3, hvs]
        exact .val _
    have inr : ∀ {y : AV}, st.t.getD d .any = y → y ≠ .any → d < st.t.length := fun {y} e hne => by
      rcases Nat.lt_or_ge d st.t.length with h | h
      · exact h
      · rw [List.getD_eq_getElem?_getD, List.getElem?_eq_none h] at e
        exact absurd e.symm hne
    split at h
    · rename_i q k r n hq hd
      split at h
      · rename_i kr hkr
        split at h
        · rename_i hc
          rw [Bool.and_eq_true, Bool.and_eq_true] at hc
          exact key (s := true) hq (.inl (by rw [hd])) (inr hd (by simp)) hkr hc.1.1 hc.1.2 (of_decide_eq_true hc.2) h.1.1 h.1.2 (by have e := h.1.1; subst e; exact h.2)
        · exact h.elim
      · exact h.elim
    · rename_i q k r n s hq hd
      split at h
      · rename_i kr hkr
        split at h
        · rename_i hc
          rw [Bool.and_eq_true, Bool.and_eq_true] at hc
          exact key (s := s) hq (.inr (by rw [hd])) (inr hd (by simp)) hkr hc.1.1 hc.1.2 (of_decide_eq_true hc.2) h.1.1 h.1.2 (by have e := h.1.1; subst e; exact h.2)
        · exact h.elim
      · exact h.elim
    · exact h.elim
  unfold ghostT at h
  split at h
  · split at h
    · obtain ⟨ρ', st', hk, h1, h2⟩ := nameT_sound h hH hT
      exact ⟨ρ', st', _, hk, h1, h2⟩
    · exact same h
  · split at h
    · obtain ⟨u, st', hk, h1, h2⟩ := absS (Nat.succ_pos _) h
      rw [fSt_eq] at hk
      exact ⟨[], st', _, hk, by simpa using h1, by simpa using h2⟩
    · exact same h
  · split at h
    · split at h
      · exact same h
      · exact h.elim
    · exact h.elim
    · exact same h
  · exact same h

end Go.Sx
