/-
  The calculus (SxA): each operation that makes or writes memory.
-/
import Derived.Test.YthfgocpejlhanaaSxF
namespace Go.Sx
open Go.RowKit

section
variable {P : Program}

/-- What a call of function f gives: the code is entered, or the model answers at once. -/
def CallsX (P : Program) (f : FuncId) (vs : Array Value) (w : World) (R : Value → World → Prop) : Prop :=
  ((callFunc f vs).run P w = .ok (.enter f vs) w ∧ Calls P f vs w fun e w' => match e with | .returned v => R v w' | _ => False) ∨
  ∃ v w', (callFunc f vs).run P w = .ok (.value v) w' ∧ R v w'

/-- What is said of maps (XMt) holds of the program's. -/
structure MapsOK (P : Program) : Prop where
  look : ∀ {t : TypeId} {es : List AV} {k v : AV} {ok : Bool} {b : Nat} {own : List Nat} {w : World} {kv : Value}, M.mlook t es k ok v → ObjR t es b own w → AVR [] k kv →
    ∃ u, (Instr.lookup t (.map (some b)) kv ok).run P w = .ok u w ∧ AVR [] v u
  len : ∀ {t : TypeId} {es : List AV} {v : AV} {b : Nat} {own : List Nat} {w : World} (ty : TypeId), M.mlen t es v → ObjR t es b own w → ∃ u, (Builtin.len_ #[t] ty #[.map (some b)]).run P w = .ok u w ∧ AVR [] v u
  upd : ∀ {t : TypeId} {es es' : List AV} {k v : AV} {b : Nat} {own : List Nat} {w : World} {kv vv : Value}, M.mupd t es k v es' → ObjR t es b own w → (∀ g ∈ own, g < w.heap.size) → AVR [] k kv → AVR [] v vv →
    ∃ w' own', (Instr.mapUpdate t (.map (some b)) kv vv).run P w = .ok () w' ∧ ObjR t es' b own' w' ∧ (∀ g ∈ own', g < w'.heap.size ∧ (g ∈ own ∨ w.heap.size ≤ g)) ∧ Bel (but w.heap.size own) w w'
  plain : ∀ {t : TypeId} {es : List AV} {k v : AV} {ok : Bool}, M.mlook t es k ok v → k.plain = true
  plainU : ∀ {t : TypeId} {es es' : List AV} {k v : AV}, M.mupd t es k v es' → k.plain = true ∧ v.plain = true

/-- The callees do what is said of them; 'g': of what was there they touch nothing. -/
structure COK (P : Program) (g : Bool) (C : Call) : Prop where
  maps : MapsOK P
  ok : ∀ f args h hs K, C f args h hs K → ∀ B ρ w vs, HpR B ρ h w → AVRs ρ args vs →
    CallsX P f vs.toArray w fun u w' => ∃ ρ' x h' hs', K x h' hs' ∧ AVR (ρ ++ ρ') x u ∧ HpR B (ρ ++ ρ') h' w' ∧ Bel (if g then bl w.heap.size else B) w w' ∧ (g = true → h <+: h')

instance (P : Program) (g : Bool) (C : Call) : CoeFun (COK P g C) fun _ => ∀ f args h hs K, C f args h hs K → ∀ B ρ w vs, HpR B ρ h w → AVRs ρ args vs →
    CallsX P f vs.toArray w fun u w' => ∃ ρ' x h' hs', K x h' hs' ∧ AVR (ρ ++ ρ') x u ∧ HpR B (ρ ++ ρ') h' w' ∧ Bel (if g then bl w.heap.size else B) w w' ∧ (g = true → h <+: h') := ⟨COK.ok⟩

theorem spliceL {α : Type} (arr us : List α) (p q : Nat) (hp : p + us.length ≤ arr.length) :
    (arr.take p ++ us ++ arr.drop (p + us.length))[q]? = if q < p then arr[q]? else if q < p + us.length then us[q - p]? else arr[q]? := by
  rw [List.append_assoc]
  have hl : (arr.take p).length = p := by rw [List.length_take]; omega
  split
  · rename_i h
    rw [List.getElem?_append_left (by omega), List.getElem?_take, if_pos h]
  · rename_i h
    rw [List.getElem?_append_right (by omega), hl]
    split
    · rename_i h2
      rw [List.getElem?_append_left (by omega)]
    · rename_i h2
      rw [List.getElem?_append_right (by omega), List.getElem?_drop]
      congr 1
      omega

theorem fillAt_get : ∀ (l cs : List AV) (o j : Nat), o + l.length ≤ cs.length → (fillAt cs o l)[j]? = if o ≤ j ∧ j < o + l.length then l[j - o]? else cs[j]?
  | [], cs, o, j, h => by simp [fillAt]; intro h1 h2; omega
  | v :: l, cs, o, j, h => by
    simp only [List.length_cons] at h
    rw [fillAt, fillAt_get l (cs.set o v) (o + 1) j (by simp; omega)]
    by_cases h1 : o + 1 ≤ j ∧ j < o + 1 + l.length
    · rw [if_pos h1, if_pos (by simp; omega)]
      obtain ⟨d, rfl⟩ : ∃ d, j = o + 1 + d := ⟨j - (o + 1), by omega⟩
      rw [show o + 1 + d - o = d + 1 from by omega, show o + 1 + d - (o + 1) = d from by omega]
      simp
    · rw [if_neg h1]
      by_cases h2 : j = o
      · subst h2; rw [if_pos (by simp), List.getElem?_set_self (by omega)]; simp
      · rw [if_neg (by simp; omega), List.getElem?_set_ne (by omega)]

theorem HpR.unflat {B : Gd} {ρ : List Loc} {h : Hp} {w : World} (hH : HpR B ρ h w) (a v : AV) : HpR B ρ (Sx.unflat h a v) w := by
  unfold Sx.unflat
  split
  · rename_i r _ _ _
    split
    · rename_i k hk
      split
      · have hrow : ∀ {r' k1}, Hp.row (h.set r (some { k with flat := false })) r' = some k1 → (r' = r ∧ k1 = { k with flat := false }) ∨ (r' ≠ r ∧ h.row r' = some k1) := by
          intro r' k1 hk1
          rcases row_set hk1 with ⟨e, g⟩ | h
          · exact .inl ⟨e, (Option.some.inj g).symm⟩
          · exact .inr h
        refine ⟨by simp [hH.len], hH.base, fun r1 k1 l1 h1 hl1 => ?_, fun r1 r2 k1 k2 l1 l2 h1 h2 hw1 hne hl1 hl2 => ?_, hH.glob, ?_⟩
        rotate_left 2
        obtain ⟨o, hO⟩ := hH.objs
        refine ⟨o, hO.same (fun r1 k1 h1 => ?_) fun r1 k1 h1 => ?_⟩
        · rcases obj_set h1 with ⟨_, g⟩ | h
          · cases g; exact absurd (get_obj.1 h1).2 (get_row.1 hk).2
          · exact h.2
        · rcases hrow h1 with ⟨rfl, rfl⟩ | ⟨_, h1⟩
          · exact ⟨k, hk, fun g => g⟩
          · exact ⟨k1, h1, id⟩
        · rcases hrow h1 with ⟨rfl, rfl⟩ | ⟨_, h1⟩
          · have hb := hH.blk _ k l1 hk hl1
            obtain ⟨cur, ty, fr, g1, g2, g3⟩ := hb.rowIs
            exact .ofRow hb.esz g1 (g2.weaken (g := false) (by simp)) g3
          · exact hH.blk r1 k1 l1 h1 hl1
        · rcases hrow h1 with ⟨e1, f1⟩ | ⟨n1, g1⟩ <;> rcases hrow h2 with ⟨e2, f2⟩ | ⟨n2, g2⟩
          · exact absurd (e1.trans e2.symm) hne
          · subst e1; subst f1; exact hH.sep _ r2 k k2 l1 l2 hk g2 hw1 hne hl1 hl2
          · subst e2; subst f2; exact hH.sep r1 _ k1 k l1 l2 g1 hk hw1 hne hl1 hl2
          · exact hH.sep r1 r2 k1 k2 l1 l2 g1 g2 hw1 hne hl1 hl2
      · exact hH
    · exact hH
  · exact hH

theorem oneCell_cells {u : Value} (h : u.oneCell' = true) : u.cells = #[u] := by
  cases u <;> simp_all [Value.oneCell', Value.cells]

/-- A cell of raw memory is written. -/
theorem memWrite_sound {B : Gd} {ρ : List Loc} {h : Hp} {w : World} (hH : HpR B ρ h w) {r : Nat} {k : Blk} (hm : memRow 0 h = some (r, k)) (hw : k.wr = true) {q : Option Addr} {x : AV} {u : Value} {es : List AV} (hp : x.plain1 = true) (hx : AVR ρ x u) (hq : M.mwrite k.elems q x = some es)
    {t : TypeId} (hs : sizeAt P t = some 1) : ∃ w', (Instr.storeAt t (.pointer q) u).run P w = .ok () w' ∧ HpR B ρ (h.set r (some ⟨true, memTy, 0, true, es⟩)) w' ∧ Bel B w w' := by
  obtain ⟨hob, hty, l, hl⟩ := hH.memory hm
  obtain ⟨o, hO⟩ := hH.objs
  obtain ⟨h1, h2, _, _⟩ := hO.is r k l hob hl
  rw [hty] at h1
  obtain ⟨m, hes, hR⟩ := h1.rawMem (fun _ _ => rawI_mem) fun _ _ => reprO_mem
  rw [hes] at hq
  obtain ⟨hx0, hone⟩ := AVR.plain1 hp hx
  unfold M.mwrite at hq
  split at hq
  · rename_i b of
    split at hq
    · rename_i cs hcs
      split at hq
      · rename_i hlt
        obtain ⟨y, hy, rfl, rfl⟩ := mget_memE hcs
        obtain ⟨hyo, cur, hc, hv⟩ := hR.is y hy
        cases hq
        have hlen := hv.length
        have hlt' : of < cur.size := by simp only [List.length_take, Array.length_toList] at hlen; omega
        have hst := run_storeCells_at P y.b of y.ty [u] 0 cur w hc (by simp; omega) (by simpa using hone)
        generalize harr : (cur.toList.take (of + 0) ++ [u] ++ cur.toList.drop (of + 0 + [u].length)) = arr at hst
        have hset : arr = cur.toList.set of u := by
          rw [← harr, Nat.add_zero, List.set_eq_take_append_cons_drop, if_pos (by simpa using hlt')]
          simp
        have hRn : RawR (msetM m y.b (y.cs.set of x)) l.b (o r) (w.setRow y.b arr.toArray) :=
          hR.set (t := y.ty) (fun z hz e => by
            obtain ⟨i, hi⟩ := List.mem_iff_getElem?.1 hz
            obtain ⟨j, hj⟩ := List.mem_iff_getElem?.1 hy
            have hij : i = j := (List.getElem?_inj (l := m.map MB.b) (by simpa using (List.getElem?_eq_some_iff.1 hi).1) hR.nd).1 (by rw [List.getElem?_map, List.getElem?_map, hi, hj]; simp [e])
            subst hij
            rw [hi] at hj; cases hj; rfl) (setRow_heap w y.b cur _ _ _ hc) (by rw [hset, List.length_set]; show AVRs [] _ (List.take y.cs.length (cur.toList.set of u)); rw [List.take_set]; exact hv.set of hx0) fun b' hb' => setRow_other w y.b b' _ hb'
        have hb : Bel (but w.heap.size (o r)) w (w.setRow y.b arr.toArray) := ⟨⟨rfl, rfl, rfl, by rw [size_setRow]; exact Nat.le_refl _, fun j hj => setRow_other w y.b j _ fun e => hj.2 (e ▸ hyo)⟩, fun _ => Nat.le_refl _⟩
        have := hH.mutObj hO hob (by rw [hty]; decide) hl hw hb (es := memE (msetM m y.b (y.cs.set of x))) (own := o r) (by rw [hty]; exact .raw _ (.inl ⟨rfl, rfl⟩) hRn) fun b hbm => ⟨by rw [size_setRow]; exact h2 b hbm, fun hx => hx.2 hbm⟩
        rw [hty] at this
        rw [memE_mset]
        refine ⟨_, ?_, this⟩
        have hu1 : u.cells = #[u] := oneCell_cells hone
        simp only [Instr.storeAt, Instr.sureAddr, storeVar, Sem.run_bind, Sem.run_pure, Result.andThen_ok, run_size hs, hu1, List.size_toArray, List.length_cons, List.length_nil, Nat.zero_add, ne_eq, not_true, if_false]
        exact hst
      · cases hq
    · cases hq
  · cases hq

/-- An array is stored into a row of single cells. -/
theorem storeRow_sound {B : Gd} {ρ : List Loc} {h : Hp} {w : World} {t : TypeId} {y : AV} {v : Value} {r i s : Nat} {k : Blk} {l : Loc} (hH : HpR B ρ h w) (hl : At ρ r l) (hk : h.row r = some k) (hs : sizeAt P t = some s) (hw : k.wr = true) (hsnd : y.sound = true) (hfl : k.flat = false ∨ y.plain = true)
    (hlen : y.cells.length = s) (hy : AVR ρ y v) (hesz1 : k.esz = 1) (hil : i + y.cells.length ≤ k.elems.length) :
    ∃ w', (Instr.storeAt t (.pointer (some ⟨l.b, l.off + i * l.esz + 0, none⟩)) v).run P w = .ok () w' ∧ HpR B ρ (h.set r (some { k with elems := k.elems.take i ++ y.cells ++ k.elems.drop (i + y.cells.length) })) w' ∧ Bel B w w' := by
  have hb := hH.blk r k l hk hl
  obtain ⟨cur, ty, fr, hrow, hri, hcap⟩ := hb.rowIs
  obtain ⟨rfl, rfl, hoff, hcs, hcm, hB, hle⟩ := hcap hw
  have hesz := hb.esz
  rw [hoff, List.drop_zero] at hri
  have hcells := AVR.cells hsnd hy
  have hn := hcells.length
  have hsz : i + v.cells.toList.length ≤ cur.toList.length := by
    have h1 := hri.len
    rw [hesz1] at h1
    rw [← hn]
    omega
  have hst := run_storeCells_at P l.b i k.ty v.cells.toList 0 cur w hrow (by simpa using hsz) (fun u hu => by
    obtain ⟨j, hj⟩ := List.mem_iff_getElem?.1 hu
    have hjl : j < y.cells.length := by rw [hn]; exact (List.getElem?_eq_some_iff.1 hj).1
    obtain ⟨u', hu', hr⟩ := hcells.get (List.getElem?_eq_getElem hjl)
    rw [hj] at hu'; cases hu'
    exact AVR.one (AV.sound_cells hsnd _ (List.getElem_mem hjl)) hr)
  simp only [Nat.add_zero] at hst
  generalize harr : (cur.toList.take i ++ v.cells.toList ++ cur.toList.drop (i + v.cells.toList.length)) = arr at hst
  have hget : ∀ q, arr[q]? = if q < i then cur.toList[q]? else if q < i + v.cells.toList.length then v.cells.toList[q - i]? else cur.toList[q]? := by
    intro q; rw [← harr]; exact spliceL _ _ _ _ hsz
  have hgetE : ∀ q, (k.elems.take i ++ y.cells ++ k.elems.drop (i + y.cells.length))[q]? = if q < i then k.elems[q]? else if q < i + y.cells.length then y.cells[q - i]? else k.elems[q]? := fun q => spliceL _ _ _ _ hil
  have hal : arr.length = cur.size := by rw [← harr]; simp; simp at hsz; omega
  have hel : (k.elems.take i ++ y.cells ++ k.elems.drop (i + y.cells.length)).length = k.elems.length := by simp; omega
  have hnew : BlkR ρ B (w.setRow l.b arr.toArray) l { k with elems := k.elems.take i ++ y.cells ++ k.elems.drop (i + y.cells.length) } := by
    refine .ofRow hesz (cur := arr.toArray) (fr := (0, 0)) (setRow_heap w l.b cur _ _ _ hrow) ?_ fun _ => ⟨rfl, rfl, hoff, by rw [List.size_toArray, hal]; exact hcs, hcm, hB, by show (k.elems.take i ++ y.cells ++ k.elems.drop (i + y.cells.length)).length ≤ l.cap; rw [hel]; exact hle⟩
    rw [hoff, List.drop_zero]
    show RowIs ρ k.flat k.esz _ arr
    intro q e he
    change (k.elems.take i ++ y.cells ++ k.elems.drop (i + y.cells.length))[q]? = some e at he
    rw [hgetE] at he
    have old : k.elems[q]? = some e → ¬ (i ≤ q ∧ q < i + y.cells.length) → e.cells.length = k.esz ∧ e.sound = true ∧ ∀ (o : Nat) c, e.cells[o]? = some c → ∃ v, arr[q * k.esz + o]? = some v ∧ AVR (if k.flat then [] else ρ) c v := fun he hq => by
      obtain ⟨g1, g2, g3⟩ := hri q e he
      refine ⟨g1, g2, fun o c hc => ?_⟩
      obtain ⟨u, hu, hr⟩ := g3 o c hc
      refine ⟨u, ?_, hr⟩
      have ho : o < k.esz := g1 ▸ (List.getElem?_eq_some_iff.1 hc).1
      have ho0 : o = 0 := by omega
      subst ho0
      rw [hesz1, Nat.mul_one, Nat.add_zero] at hu ⊢
      rw [hget]
      by_cases h1 : q < i
      · rw [if_pos h1]; exact hu
      · rw [if_neg h1, if_neg (by rw [← hn]; omega)]; exact hu
    split at he
    · exact old he (by omega)
    · rename_i h1
      split at he
      · rename_i h2
        have hm : e.cell1 = true := AV.sound_cells hsnd _ (List.mem_of_getElem? he)
        have hc : e.cells = [e] := by cases e <;> first | rfl | (simp [AV.cell1] at hm)
        have hs2 : e.sound = true := by cases e <;> first | exact hm | (simp [AV.cell1] at hm)
        refine ⟨by rw [hc, hesz1]; rfl, hs2, fun o c ho => ?_⟩
        rw [hc] at ho
        cases o with
        | succ o => simp at ho
        | zero =>
          simp at ho
          subst ho
          have h3 := RowIs.one hsnd hy (f := k.flat) (fun hf => by rcases hfl with h | h; · simp [hf] at h
                                                                   · exact h) 0 y (by simp)
          obtain ⟨u, hu, hr⟩ := h3.2.2 (q - i) e he
          refine ⟨u, ?_, hr⟩
          rw [hesz1, Nat.mul_one, Nat.add_zero, hget, if_neg h1, if_pos (by rw [← hn]; exact h2)]
          simpa using hu
      · exact old he (by omega)
  obtain ⟨hH', hbl⟩ := hH.setRow hk hl hw hnew hw (get_row.1 hk).2
  refine ⟨_, ?_, hH', hbl⟩
  have hvs : v.cells.size = s := by rw [← hlen, hn]; simp
  simp only [Instr.storeAt, Instr.sureAddr, storeVar, Sem.run_bind, Sem.run_pure, Result.andThen_ok, run_size hs, hvs, ne_eq, not_true, if_false]
  rw [hoff, hesz, hesz1, Nat.zero_add, Nat.mul_one, Nat.add_zero]
  exact hst

theorem store0_sound {B : Gd} {ρ : List Loc} {h : Hp} {w : World} {t : TypeId} {x y : AV} {u v : Value} {hs : List Hint} {K : Hp → List Hint → Prop} (hK : store0 P h t x y hs K) (hH : HpR B ρ h w) (hx : AVR ρ x u) (hy : AVR ρ y v) :
    ∃ h' hs' w', K h' hs' ∧ (Instr.storeAt t u v).run P w = .ok () w' ∧ HpR B ρ h' w' ∧ Bel B w w' := by
  unfold store0 at hK
  split at hK
  · rename_i r i o st
    obtain ⟨l, hl, rfl⟩ := ptr_inv hx
    split at hK
    · rename_i k s hk hs
      split at hK
      · exact hK.elim
      · rename_i hc
        simp only [Bool.and_eq_true, Bool.or_eq_true, Bool.not_eq_true', decide_eq_true_eq] at hc
        obtain ⟨⟨⟨hw, hsnd⟩, hfl⟩, hlen⟩ := hc
        have hfk : (∃ h' hs', K h' hs' ∧ h' = h.set r (some (k.write i o y)) ∧ k.fits i o y = true) ∨ (∃ hs', K (h.set r (some { k with elems := k.elems.take i ++ y.cells ++ k.elems.drop (i + y.cells.length) })) hs' ∧ o = 0 ∧ k.esz = 1 ∧ i + y.cells.length ≤ k.elems.length) := by
          split at hK
          · split at hK
            · rename_i hf; exact .inl ⟨_, _, hK, rfl, hf⟩
            · split at hK
              · split at hK
                · rename_i hd
                  obtain ⟨d1, d2, d3⟩ := of_decide_eq_true hd
                  exact .inr ⟨_, hK, d1, d2, d3⟩
                · exact hK.elim
              · exact hK.elim
          · have hK2 := hK.2
            split at hK2
            · obtain ⟨he, hK2⟩ := hK2
              have he : (k.write i o y).elems = _ := he
              subst he
              exact .inl ⟨_, _, hK2, rfl, hK.1⟩
            · exact .inl ⟨_, _, hK2, rfl, hK.1⟩
        rcases hfk with hfk | ⟨hs', hK', rfl, d2, d3⟩
        rotate_left
        · obtain ⟨w', g1, g2, g3⟩ := storeRow_sound hH hl hk hs hw hsnd hfl hlen hy d2 d3
          exact ⟨_, hs', w', hK', g1, g2, g3⟩
        obtain ⟨h', hs', hK', rfl, hfit⟩ := hfk
        have hb := hH.blk r k l hk hl
        obtain ⟨cur, ty, fr, hrow, hri, hcap⟩ := hb.rowIs
        obtain ⟨rfl, rfl, hoff, hcs, hcm, hB, hle⟩ := hcap hw
        have hesz := hb.esz
        rw [hoff, List.drop_zero] at hri
        have hcells := AVR.cells hsnd hy
        -- the element that is written
        obtain ⟨e, he⟩ : ∃ e, k.elems[i]? = some e := by
          unfold Blk.fits at hfit
          split at hfit
          · rename_i e he; exact ⟨_, he⟩
          · simp at hfit
        obtain ⟨e1, e2, e3⟩ := hri i e he
        have hil : i < k.elems.length := (List.getElem?_eq_some_iff.1 he).1
        have hfit' : o + y.cells.length ≤ k.esz ∧ (k.write i o y).elems = k.elems.set i (wrElem e o y) ∧ ((∃ cs, e = .agg cs) ∨ (wrElem e o y = y ∧ o = 0 ∧ y.cells.length = 1 ∧ k.esz = 1)) := by
          unfold Blk.fits at hfit
          unfold Blk.write
          rw [he] at hfit ⊢
          cases e <;> simp only [fitElem, decide_eq_true_eq, Bool.and_eq_true] at hfit <;> simp only [AV.cells, List.length_cons, List.length_nil] at e1
          case agg cs => exact ⟨by omega, rfl, .inl ⟨_, rfl⟩⟩
          all_goals exact ⟨by omega, rfl, .inr ⟨rfl, hfit.1.1, hfit.1.2, by omega⟩⟩
        obtain ⟨hoe, hwe, hone⟩ := hfit'
        have hsz : i * k.esz + o + v.cells.toList.length ≤ cur.toList.length := by
          have h1 := hri.len
          have h2 : (i + 1) * k.esz ≤ k.elems.length * k.esz := Nat.mul_le_mul_right _ hil
          rw [Nat.add_mul] at h2
          rw [← hcells.length]
          omega
        have hst := run_storeCells_at P l.b (i * k.esz + o) k.ty v.cells.toList 0 cur w hrow (by simpa using hsz) (fun u hu => by
          obtain ⟨j, hj⟩ := List.mem_iff_getElem?.1 hu
          have hjl : j < y.cells.length := by rw [hcells.length]; exact (List.getElem?_eq_some_iff.1 hj).1
          obtain ⟨u', hu', hr⟩ := hcells.get (List.getElem?_eq_getElem hjl)
          rw [hj] at hu'; cases hu'
          exact AVR.one (AV.sound_cells hsnd _ (List.getElem_mem hjl)) hr)
        simp only [Nat.add_zero] at hst
        generalize harr : (cur.toList.take (i * k.esz + o) ++ v.cells.toList ++ cur.toList.drop (i * k.esz + o + v.cells.toList.length)) = arr at hst
        have hget : ∀ q, arr[q]? = if q < i * k.esz + o then cur.toList[q]? else if q < i * k.esz + o + v.cells.toList.length then v.cells.toList[q - (i * k.esz + o)]? else cur.toList[q]? := by
          intro q; rw [← harr]; exact spliceL _ _ _ _ hsz
        have hal : arr.length = cur.size := by rw [← harr]; simp; simp at hsz; omega
        have hnew : BlkR ρ B (w.setRow l.b arr.toArray) l (k.write i o y) := by
          refine .ofRow hesz (cur := arr.toArray) (fr := (0, 0)) (setRow_heap w l.b cur _ _ _ hrow) ?_ fun _ => ⟨rfl, rfl, hoff, by rw [List.size_toArray, hal]; exact hcs, hcm, hB, by rw [hwe]; simpa using hle⟩
          rw [hoff, List.drop_zero]
          show RowIs ρ k.flat k.esz _ arr
          rw [hwe]
          intro i' e' he'
          by_cases hii : i = i'
          · subst hii
            rw [List.getElem?_set_self hil] at he'
            cases he'
            have hy1 : ∀ (c : AV) (j : Nat), y.cells[j]? = some c → ∃ u, v.cells.toList[j]? = some u ∧ AVR (if k.flat = true then [] else ρ) c u := by
              intro c j hj
              have h1 := RowIs.one hsnd hy (f := k.flat) (fun hf => by rcases hfl with h | h; · simp [hf] at h
                                                                       · exact h) 0 y (by simp)
              obtain ⟨u, hu, hr⟩ := h1.2.2 j c hj
              exact ⟨u, by simpa using hu, hr⟩
            rcases hone with ⟨cs, rfl⟩ | ⟨hwy, h0, h1, h2⟩
            · simp only [AV.cells] at e1 e3
              show (AV.agg (fillAt cs o y.cells)).cells.length = _ ∧ _
              simp only [AV.cells]
              refine ⟨by rw [fillAt_length]; exact e1, ?_, fun o' c hc => ?_⟩
              · simp only [wrElem, AV.sound, List.all_eq_true] at e2 ⊢
                intro c hc
                obtain ⟨j, hj⟩ := List.mem_iff_getElem?.1 hc
                rw [fillAt_get _ _ _ _ (by omega)] at hj
                split at hj
                · exact AV.sound_cells hsnd _ (List.mem_of_getElem? hj)
                · exact e2 _ (List.mem_of_getElem? hj)
              · change (fillAt cs o y.cells)[o']? = some c at hc
                rw [fillAt_get _ _ _ _ (by omega)] at hc
                rw [hget]
                split at hc
                · rename_i ho
                  obtain ⟨u, hu, hr⟩ := hy1 _ _ hc
                  refine ⟨u, ?_, hr⟩
                  rw [if_neg (by omega), if_pos (by rw [← hcells.length]; omega), ← hu]
                  congr 1; omega
                · rename_i ho
                  obtain ⟨u, hu, hr⟩ := e3 _ _ hc
                  refine ⟨u, ?_, hr⟩
                  by_cases h1 : o' < o
                  · rw [if_pos (by omega)]; exact hu
                  · rw [if_neg (by omega), if_neg (by rw [← hcells.length]; omega)]; exact hu
            · rw [hwy]
              refine ⟨by omega, hsnd, fun o' c hc => ?_⟩
              obtain ⟨u, hu, hr⟩ := hy1 _ _ hc
              refine ⟨u, ?_, hr⟩
              have := (List.getElem?_eq_some_iff.1 hc).1
              rw [hget, if_neg (by omega), if_pos (by rw [← hcells.length]; omega), ← hu]
              congr 1; omega
          · rw [List.getElem?_set_ne hii] at he'
            obtain ⟨g1, g2, g3⟩ := hri i' e' he'
            refine ⟨g1, g2, fun o' c hc => ?_⟩
            obtain ⟨u, hu, hr⟩ := g3 o' c hc
            refine ⟨u, ?_, hr⟩
            have ho' : o' < k.esz := g1 ▸ (List.getElem?_eq_some_iff.1 hc).1
            rw [hget]
            rcases Nat.lt_or_gt_of_ne hii with h1 | h1
            · have : (i + 1) * k.esz ≤ i' * k.esz := Nat.mul_le_mul_right _ h1
              rw [Nat.add_mul] at this
              rw [if_neg (by omega), if_neg (by rw [← hcells.length]; omega)]; exact hu
            · have : (i' + 1) * k.esz ≤ i * k.esz := Nat.mul_le_mul_right _ h1
              rw [Nat.add_mul] at this
              rw [if_pos (by omega)]; exact hu
        obtain ⟨hH', hbl⟩ := hH.setRow hk hl hw hnew hw (get_row.1 hk).2
        refine ⟨_, _, _, hK', ?_, hH', hbl⟩
        have hvs : v.cells.size = s := by rw [← hlen, hcells.length]; simp
        simp only [Instr.storeAt, Instr.sureAddr, storeVar, Sem.run_bind, Sem.run_pure, Result.andThen_ok, run_size hs, hvs, ne_eq, not_true, if_false]
        rw [hoff, hesz, Nat.zero_add]
        exact hst
    · exact hK.elim
  · rename_i q
    cases hx
    split at hK
    · rename_i r k hm hs
      split at hK
      · rename_i hc
        simp only [Bool.and_eq_true] at hc
        obtain ⟨hq, hK⟩ := hK
        obtain ⟨es, hes⟩ := Option.isSome_iff_exists.1 hq
        obtain ⟨w', h1, h2, h3⟩ := memWrite_sound hH hm hc.1 hc.2 (rawC_rel hy) hes hs
        rw [show M.mwr k.elems q (rawC y) = es by unfold M.mwr; rw [hes]; rfl] at hK
        exact ⟨_, _, w', hK, h1, h2, h3⟩
      · exact hK.elim
    · exact hK.elim
  · exact hK.elim

theorem store_sound {B : Gd} {ρ : List Loc} {h : Hp} {w : World} {t : TypeId} {x y : AV} {u v : Value} {hs : List Hint} {K : Hp → List Hint → Prop} (hK : store P h t x y hs K) (hH : HpR B ρ h w) (hx : AVR ρ x u) (hy : AVR ρ y v) :
    ∃ h' hs' w', K h' hs' ∧ (Instr.storeAt t u v).run P w = .ok () w' ∧ HpR B ρ h' w' ∧ Bel B w w' := by
  unfold store at hK
  split at hK
  · exact store0_sound hK (hH.unflat _ _) hx (canon_rel hy)
  · exact store0_sound hK (hH.unflat _ _) hx hy

theorem newRow_sound {B : Gd} {ρ : List Loc} {h : Hp} {w : World} {t : TypeId} {elems : List AV} {vs : List Value} {K : Nat → Hp → Prop} (hK : newRow P t elems h K) (hH : HpR B ρ h w) (hv : AVRs ρ elems vs) (hm : elems.length ≤ maxLen) :
    ∃ h' s, h <+: h' ∧ sizeAt P t = some s ∧ K h.length h' ∧ (∀ v ∈ vs, v.cells.size = s) ∧ ∀ w', w'.heap = (w.alloc (.cells (vs.flatMap fun v => v.cells.toList).toArray t)).heap → w'.os = w.os → w'.tape = w.tape → w'.output = w.output → w.drawn ≤ w'.drawn →
      HpR B (ρ ++ [⟨w.heap.size, 0, s, elems.length, false⟩]) h' w' ∧ Bel (bl w.heap.size) w w' := by
  unfold newRow at hK
  split at hK
  · rename_i s hs
    split at hK
    · rename_i hall
      rw [Bool.and_eq_true, decide_eq_true_eq] at hall
      obtain ⟨h0, hall⟩ := hall
      obtain ⟨h1, h2⟩ := cells_flat hv s hall (elems.all AV.plain) (fun h => h)
      refine ⟨_, s, List.prefix_append _ _, hs, hK, fun v hvm => ?_, fun w' e1 e2 e3 e4 e5 => hH.newRow (k := ⟨true, t, s, elems.all AV.plain, elems⟩) rfl (Nat.ne_of_gt h0) (by simpa using h1) (by simpa using h2) hm (Nat.le_refl _) e1 e2 e3 e4 fun _ => e5⟩
      obtain ⟨j, hj⟩ := List.mem_iff_getElem?.1 hvm
      have hjl : j < elems.length := by rw [hv.length]; exact (List.getElem?_eq_some_iff.1 hj).1
      obtain ⟨u', hu', hr⟩ := hv.get (List.getElem?_eq_getElem hjl)
      rw [hj] at hu'; cases hu'
      have := List.all_eq_true.1 hall _ (List.getElem_mem hjl)
      simp only [Bool.and_eq_true, decide_eq_true_eq] at this
      rw [← this.2, (AVR.cells this.1 hr).length]; simp
    · exact hK.elim
  · exact hK.elim

theorem fillV_splice : ∀ (l cs : List Value) (o : Nat), o + l.length ≤ cs.length → fillV cs o l = cs.take o ++ l ++ cs.drop (o + l.length)
  | [], cs, o, _ => by simp [fillV]
  | v :: l, cs, o, h => by
    simp only [List.length_cons] at h
    rw [fillV, fillV_splice l _ _ (by simp; omega)]
    rw [List.take_set, List.drop_set]
    apply List.ext_getElem?
    intro q
    have e1 : (cs.take (o + 1)).set o v = cs.take o ++ [v] := by
      apply List.ext_getElem?
      intro j
      by_cases hj : j = o
      · subst hj; rw [List.getElem?_set_self (by rw [List.length_take]; omega), List.getElem?_append_right (by rw [List.length_take]; omega), List.length_take]; simp [show min j cs.length = j from by omega]
      · rw [List.getElem?_set_ne (by omega)]
        by_cases hlt : j < o
        · rw [List.getElem?_append_left (by rw [List.length_take]; omega), List.getElem?_take, List.getElem?_take, if_pos (by omega), if_pos hlt]
        · rw [List.getElem?_append_right (by rw [List.length_take]; omega), List.getElem?_take, if_neg (by omega), List.length_take, List.getElem?_eq_none (by simp; omega)]
    rw [e1, if_pos (by omega)]
    simp [Nat.add_assoc, Nat.add_comm 1]

theorem fill_all (s : Nat) : ∀ (vs : List Value) (j : Nat) (cs : Array Value), (∀ v ∈ vs, v.cells.size = s) → (j + vs.length) * s ≤ cs.size →
    Instr.fill (fun i => some (i * s, s)) cs ((List.range' j vs.length).zip vs) = some (cs.toList.take (j * s) ++ (vs.flatMap fun v => v.cells.toList) ++ cs.toList.drop ((j + vs.length) * s)).toArray
  | [], j, cs, _, _ => by simp [Instr.fill]
  | v :: vs, j, cs, hv, hl => by
    have hs : v.cells.size = s := hv v (by simp)
    have hl' : (j + 1 + vs.length) * s ≤ cs.size := by simpa [Nat.add_assoc, Nat.add_comm 1] using hl
    have h1 : (j + 1) * s ≤ (j + 1 + vs.length) * s := Nat.mul_le_mul_right _ (by omega)
    rw [Nat.add_mul] at h1
    simp only [List.length_cons, List.range'_succ, List.zip_cons_cons, Instr.fill, hs, ne_eq, not_true, decide_false, Bool.false_or]
    rw [if_neg (by simp; omega)]
    have hf := fillV_foldl v.cells.toList cs (j * s) 0
    have hz : (v.cells.zipIdx.foldl (fun (cs : Array Value) (p : Value × Nat) => cs.setIfInBounds (j * s + p.2) p.1) cs) = (fillV cs.toList (j * s) v.cells.toList).toArray := by
      rw [← Array.foldl_toList, Array.toList_zipIdx]; simpa using hf
    have hz' : (v.cells.zipIdx.foldl (fun (cs : Array Value) (x : Value × Nat) => match x with | (c, j_1) => cs.setIfInBounds (j * s + j_1) c) cs) = (fillV cs.toList (j * s) v.cells.toList).toArray := hz
    rw [hz', fill_all s vs (j + 1) _ (fun u hu => hv u (by simp [hu])) (by simp [fillV_length]; exact hl')]
    rw [fillV_splice _ _ _ (by simp; omega)]
    have e1 : (cs.toList.take (j * s) ++ v.cells.toList).length = (j + 1) * s := by simp [Nat.add_mul]; omega
    congr 1
    simp only [List.flatMap_cons]
    have e2 : j * s + v.cells.toList.length = (j + 1) * s := by simp [Nat.add_mul]; omega
    rw [e2]
    rw [List.take_append_of_le_length (by omega), List.take_of_length_le (by omega)]
    rw [List.drop_append, List.drop_eq_nil_of_le (by rw [e1]; exact Nat.mul_le_mul_right _ (by omega)), List.nil_append, List.drop_drop, e1]
    have e3 : (j + 1) * s ≤ (j + 1 + vs.length) * s := Nat.mul_le_mul_right _ (by omega)
    rw [show (j + 1) * s + ((j + 1 + vs.length) * s - (j + 1) * s) = (j + (vs.length + 1)) * s from by rw [Nat.add_sub_cancel' e3]; congr 1; omega]
    simp

end
end Go.Sx
