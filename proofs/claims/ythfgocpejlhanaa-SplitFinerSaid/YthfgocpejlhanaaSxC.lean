/-
  The calculus (SxA): its operations that only read give what Go's do.
-/
import Derived.Test.YthfgocpejlhanaaSxB
namespace Go.Sx

section
variable {P : Program}

theorem run_und {t : TypeId} {d : TypeDesc} (h : P.underlying t = some d) (w : World) : (underlying t).run P w = .ok d w := run_underlying h w

theorem run_tinfo {t : TypeId} {i : TypeInfo} (h : P.info? t = some i) (w : World) : (typeInfo t).run P w = .ok i w := by
  simp [typeInfo, h]

theorem sizeAt_info {t : TypeId} {s : Nat} (h : sizeAt P t = some s) : ∃ i, P.info? t = some i ∧ i.size = s := by
  unfold sizeAt at h
  split at h
  · rename_i i hi; simp at h; exact ⟨i, hi, h⟩
  · simp at h

theorem run_size {t : TypeId} {s : Nat} (h : sizeAt P t = some s) (w : World) : (sizeOf t).run P w = .ok s w := by
  obtain ⟨i, hi, rfl⟩ := sizeAt_info h
  simp [sizeOf, run_tinfo hi]

theorem run_isAgg {t : TypeId} {b : Bool} (h : isAggT P t = some b) (w : World) : (isAgg t).run P w = .ok b w := by
  unfold isAggT at h
  unfold isAgg
  split at h <;> simp at h <;> subst h
  · rename_i hu; simp [run_und hu]
  · rename_i hu; simp [run_und hu]
  · rename_i d hs ha hu
    rw [Sem.run_bind, run_und hu]
    cases d <;> simp_all

theorem AVRs.drop {ρ : List Loc} : ∀ {xs : List AV} {vs : List Value} (n : Nat), AVRs ρ xs vs → AVRs ρ (xs.drop n) (vs.drop n)
  | _, _, 0, h => by simpa using h
  | _, _, _ + 1, .nil => .nil
  | _, _, n + 1, .cons _ h => by simpa using AVRs.drop n h

theorem AVRs.take {ρ : List Loc} : ∀ {xs : List AV} {vs : List Value} (n : Nat), AVRs ρ xs vs → AVRs ρ (xs.take n) (vs.take n)
  | _, _, 0, _ => by simpa using AVRs.nil
  | _, _, _ + 1, .nil => .nil
  | _, _, n + 1, .cons h0 h => by simpa using AVRs.cons h0 (AVRs.take n h)

theorem part_sound {ρ : List Loc} {t : TypeId} {cs : List AV} {vs : List Value} {o : Nat} {x : AV} (h : partOf P t cs o = some x) (hr : AVRs ρ cs vs) :
    ∃ u, AVR ρ x u ∧ ∀ w, (part t vs.toArray o).run P w = .ok u w := by
  unfold partOf at h
  split at h
  · rename_i i hi hag
    split at h
    · simp at h; subst h
      refine ⟨.agg ((vs.drop o).take i.size).toArray, .agg ((hr.drop o).take i.size), fun w => ?_⟩
      simp [part, run_isAgg hag, sizeOf, run_tinfo hi, List.extract_eq_take_drop]
    · simp at h
  · rename_i i hi hag
    obtain ⟨v, hv, hx⟩ := hr.get h
    exact ⟨v, hx, fun w => by simp [part, run_isAgg hag, hv]⟩
  · simp at h

theorem rowVals {ρ : List Loc} {cur : Array Value} : ∀ {L : List AV} {base : Nat}, (∀ (j : Nat) c, L[j]? = some c → ∃ v, cur[base + j]? = some v ∧ AVR ρ c v) →
    ∃ vs : List Value, AVRs ρ L vs ∧ ∀ (j : Nat) v, vs[j]? = some v → cur[base + j]? = some v
  | [], _, _ => ⟨[], .nil, by simp⟩
  | c :: L, base, h => by
    obtain ⟨v, hv, hc⟩ := h 0 c (by simp)
    obtain ⟨vs, hvs, hg⟩ := rowVals (L := L) (base := base + 1) fun j c' hj => by
      obtain ⟨u, hu, hr⟩ := h (j + 1) c' (by simpa using hj)
      exact ⟨u, by rw [← hu]; congr 1; omega, hr⟩
    refine ⟨v :: vs, .cons hc hvs, fun j u hu => ?_⟩
    cases j with
    | zero => simp at hu; subst hu; simpa using hv
    | succ j => have := hg j u (by simpa using hu); rw [← this]; congr 1; omega

theorem BlkR.cellsOf {ρ : List Loc} {B : Gd} {w : World} {l : Loc} {k : Blk} (hb : BlkR ρ B w l k) {i : Nat} {e : AV} (he : k.elems[i]? = some e) :
    ∃ vs : List Value, AVRs ρ e.cells vs ∧ vs.length = k.esz ∧ ∀ w' : World, w'.heap[l.b]? = w.heap[l.b]? → ∀ (j : Nat) v, vs[j]? = some v → w'.cell? ⟨l.b, l.off + i * l.esz + j, none⟩ = some v := by
  obtain ⟨hesz, cur, ty, fr, hrow, hel, _⟩ := hb
  obtain ⟨hlen, hs, hc⟩ := hel i e he
  obtain ⟨vs, hvs, hg⟩ := rowVals (ρ := ρ) (cur := cur) (L := e.cells) (base := l.off + i * k.esz) fun j c hj => by
    obtain ⟨v, hv, hr⟩ := hc j c hj
    refine ⟨v, hv, ?_⟩
    split at hr
    · exact hr.of_nil
    · exact hr
  refine ⟨vs, hvs, by rw [← hvs.length, hlen], fun w' hw j v hj => ?_⟩
  rw [cell_of_row w' l.b _ cur ty fr (hw.trans hrow), hesz]
  exact hg j v hj

theorem read_sound {ρ : List Loc} {B : Gd} {w0 : World} {l : Loc} {k : Blk} (hb : BlkR ρ B w0 l k) {t : TypeId} {i o : Nat} {x : AV} (h : k.read P t i o = some x) :
    ∃ u, AVR ρ x u ∧ ∀ w, w.heap[l.b]? = w0.heap[l.b]? → (loadVar t ⟨l.b, l.off + i * l.esz + o, none⟩).run P w = .ok u w := by
  unfold Blk.read at h
  split at h
  · rename_i e he
    obtain ⟨vs, hvs, _, hcell⟩ := hb.cellsOf he
    unfold partOf at h
    split at h
    · rename_i ti hi hag
      split at h
      · rename_i hle
        simp at h; subst h
        have hle := of_decide_eq_true hle
        refine ⟨.agg ((vs.drop o).take ti.size).toArray, .agg ((hvs.drop o).take ti.size), fun w hw => ?_⟩
        have hl := run_loadCells_list (P := P) w ⟨l.b, l.off + i * l.esz + o, none⟩ ((vs.drop o).take ti.size) fun j v hj => by
          rw [List.getElem?_take] at hj
          split at hj
          · rw [List.getElem?_drop] at hj
            have := hcell w hw _ _ hj
            rw [show (⟨l.b, l.off + i * l.esz + o, none⟩ : Addr).add j = ⟨l.b, l.off + i * l.esz + (o + j), none⟩ from by
              unfold Addr.add; split
              · rename_i h0; subst h0; rfl
              · simp [Nat.add_assoc]]
            exact this
          · simp at hj
        have hn : ((vs.drop o).take ti.size).length = ti.size := by
          rw [List.length_take, List.length_drop, ← hvs.length]; omega
        rw [hn] at hl
        simp [loadVar, run_isAgg hag, sizeOf, run_tinfo hi, hl]
      · simp at h
    · rename_i ti hi hag
      obtain ⟨v, hv, hx⟩ := hvs.get h
      refine ⟨v, hx, fun w hw => ?_⟩
      have := hcell w hw o v hv
      simp [loadVar, run_isAgg hag, this]
    · simp at h
  · simp at h

theorem beq_toNat (a b : BitVec 64) : (((a.toNat : Int)) == (b.toNat : Int)) = (a == b) := by
  rw [Bool.eq_iff_iff, beq_iff_eq, beq_iff_eq, Int.ofNat_inj, BitVec.toNat_inj]

theorem nilPtr_rel {ρ : List Loc} {x : AV} {u : Value} {c : Bool} (hc : x.nilPtr = some c) (hr : AVR ρ x u) : ∃ p, u = .pointer p ∧ p.isNone = c := by
  unfold AV.nilPtr at hc
  split at hc <;> simp at hc <;> subst hc <;> cases hr <;> exact ⟨_, rfl, rfl⟩

theorem nilFn_rel {ρ : List Loc} {x : AV} {u : Value} {c : Bool} (hc : x.nilFn = some c) (hr : AVR ρ x u) : (c = true ∧ u = .nilFunc) ∨ (c = false ∧ ∃ fn a b, u = .func fn a b) := by
  unfold AV.nilFn at hc
  split at hc <;> simp at hc <;> subst hc <;> cases hr
  · exact .inl ⟨rfl, rfl⟩
  · exact .inr ⟨rfl, _, _, _, rfl⟩
  · exact .inr ⟨rfl, _, _, _, rfl⟩

theorem fn_equal {ρ : List Loc} {t : TypeId} {a b : Array TypeId} {c : Bool} (ht : P.underlying t = some (.func a b c)) {x y : AV} {u v : Value} {d e : Bool} (h1 : x.nilFn = some d) (h2 : y.nilFn = some e) (hde : d = true ∨ e = true) (hx : AVR ρ x u) (hy : AVR ρ y v) (D : Nat) (w : World) :
    (Op.equalIn (D + 1) t u v).run P w = .ok (d && e) w := by
  rcases nilFn_rel h1 hx with ⟨rfl, rfl⟩ | ⟨rfl, f, f1, f2, rfl⟩ <;> rcases nilFn_rel h2 hy with ⟨rfl, rfl⟩ | ⟨rfl, g, g1, g2, rfl⟩
  · simp [Op.equalIn, run_und ht]
  · simp [Op.equalIn, run_und ht]
  · simp [Op.equalIn, run_und ht]
  · simp at hde

theorem eqCell_sound {ρ : List Loc} {t : TypeId} {dsc : TypeDesc} (ht : P.underlying t = some dsc) {x y : AV} {u v : Value} {b : Bool} (h : eqCell dsc x y = some b) (hx : AVR ρ x u) (hy : AVR ρ y v) (D : Nat) (w : World) :
    (Op.equalIn (D + 1) t u v).run P w = .ok b w := by
  unfold eqCell at h
  split at h
  · split at h
    · rename_i h1 h2
      simp at h; subst h
      rw [asBool_rel hx h1, asBool_rel hy h2]
      exact run_equalIn_bool' w D t _ _ ht
    · simp at h
  · split at h
    · rename_i h1 h2
      simp at h; subst h
      rw [asW_rel hx h1, asW_rel hy h2]
      simp [Op.equalIn, run_und ht, beq_toNat]
    · split at h
      · rename_i h1 h2
        split at h
        · rename_i hk
          simp at h; subst h
          have hk := of_decide_eq_true hk
          subst hk
          rw [asInt_rel hx h1, asInt_rel hy h2]
          simp [Op.equalIn, run_und ht]
        · simp at h
      · simp at h
  · split at h
    · rename_i h1 h2
      simp at h; subst h
      rw [asStr_rel hx h1, asStr_rel hy h2]
      simp [Op.equalIn, run_und ht]
    · simp at h
  · split at h
    · rename_i c h1
      obtain ⟨p, rfl, hp⟩ := nilPtr_rel h1 hx
      cases hy
      simp at h; subst h
      rw [← hp]
      cases p <;> simp [Op.equalIn, run_und ht]
    · rename_i h1
      obtain ⟨p, rfl, hp⟩ := nilPtr_rel h1 hx
      obtain ⟨q, rfl, hq⟩ := nilPtr_rel h hy
      cases p <;> simp at hp
      rw [← hq]
      cases q <;> simp [Op.equalIn, run_und ht]
    · simp at h
  · split at h
    · rename_i g1 g2
      simp at h; subst h
      have := fn_equal ht g2 g1 (.inr rfl) hx hy D w
      rwa [Bool.and_true] at this
    · rename_i g1 g2
      simp at h; subst h
      have := fn_equal ht g2 g1 (.inl rfl) hx hy D w
      rwa [Bool.true_and] at this
    · simp at h
  · simp at h

theorem andAll_cons (b : Bool) (bs : List Bool) : andAll (b :: bs) = (b && andAll bs) := by
  cases bs <;> simp [andAll]

theorem eqFields_sound {xs ys : List Value} {D : Nat} (f : Field → Option Bool)
    (hf : ∀ fd b, f fd = some b → ∀ w, (do let a ← part fd.type xs.toArray fd.offset; let c ← part fd.type ys.toArray fd.offset; Op.equalIn D fd.type a c : Sem Bool).run P w = .ok b w) :
    ∀ (fs : List Field) (bs : List Bool), allSome (fs.map fun fd => match decide (fd.name = "_") with | true => some true | false => f fd) = some bs →
      ∀ w, (Op.eqFields D xs.toArray ys.toArray fs).run P w = .ok (andAll bs) w
  | [], bs, h, w => by simp [allSome] at h; subst h; simp [Op.eqFields, andAll]
  | fd :: fs, bs, h, w => by
    simp only [List.map_cons] at h
    by_cases hn : fd.name = "_"
    · simp only [hn, decide_true] at h
      simp only [allSome] at h
      split at h
      · rename_i r hr
        simp at h; subst h
        rw [andAll_cons, Bool.true_and]
        simp only [Op.eqFields, hn, ne_eq, not_true, if_false]
        exact eqFields_sound f hf fs r hr w
      · simp at h
    · simp only [hn, decide_false] at h
      cases hb : f fd with
      | none => simp [hb, allSome] at h
      | some b =>
        simp only [hb, allSome] at h
        split at h
        · rename_i r hr
          simp at h; subst h
          have h1 := hf fd b hb w
          have h2 := eqFields_sound f hf fs r hr w
          simp only [Op.eqFields, ne_eq, hn, not_false_iff, if_true]
          simp only [Sem.run_bind] at h1 ⊢
          generalize hp1 : (part fd.type xs.toArray fd.offset).run P w = r1 at h1
          cases r1 with
          | halt _ _ => simp [Result.andThen] at h1
          | ok a w1 =>
            simp only [Result.andThen_ok] at h1 ⊢
            generalize hp2 : (part fd.type ys.toArray fd.offset).run P w1 = r2 at h1
            cases r2 with
            | halt _ _ => simp [Result.andThen] at h1
            | ok c w2 =>
              simp only [Result.andThen_ok] at h1 ⊢
              rw [h1]
              simp only [Result.andThen_ok]
              rw [andAll_cons]
              cases b <;> simp [h2]
        · simp at h

theorem eqElems_sound {xs ys : Array Value} {e : TypeId} {D s : Nat} (f : Nat → Option Bool)
    (hf : ∀ j b, f j = some b → ∀ w, (do let a ← part e xs (j * s); let c ← part e ys (j * s); Op.equalIn D e a c : Sem Bool).run P w = .ok b w) :
    ∀ (js : List Nat) (bs : List Bool), allSome (js.map f) = some bs → ∀ w,
      ((forIn js ((none, ()) : Option Bool × PUnit) fun j _ => do
          let a ← part e xs (j * s)
          let c ← part e ys (j * s)
          let r ← Op.equalIn D e a c
          if (!r) = true then pure (ForInStep.done (some false, ())) else pure (ForInStep.yield (none, ())) : Sem (Option Bool × PUnit))).run P w = .ok (if andAll bs then (none, ()) else (some false, ())) w
  | [], bs, h, w => by simp [allSome] at h; subst h; simp [andAll]
  | j :: js, bs, h, w => by
    simp only [List.map_cons] at h
    cases hb : f j with
    | none => simp [hb, allSome] at h
    | some b =>
      simp only [hb, allSome] at h
      split at h
      · rename_i r hr
        simp at h; subst h
        have h1 := hf j b hb w
        have h2 := eqElems_sound f hf js r hr w
        simp only [List.forIn_cons, Sem.run_bind] at h1 ⊢
        generalize hp1 : (part e xs (j * s)).run P w = r1 at h1
        cases r1 with
        | halt _ _ => simp [Result.andThen] at h1
        | ok a w1 =>
          simp only [Result.andThen_ok] at h1 ⊢
          generalize hp2 : (part e ys (j * s)).run P w1 = r2 at h1
          cases r2 with
          | halt _ _ => simp [Result.andThen] at h1
          | ok c w2 =>
            simp only [Result.andThen_ok] at h1 ⊢
            rw [h1]
            simp only [Result.andThen_ok]
            rw [andAll_cons]
            cases b
            · simp
            · simpa using h2
      · simp at h

theorem eqT_sound {ρ : List Loc} : ∀ (d : Nat) {t : TypeId} {x y : AV} {u v : Value} {b : Bool}, eqT P d t x y = some b → AVR ρ x u → AVR ρ y v → ∀ (D : Nat), d ≤ D → ∀ w, (Op.equalIn D t u v).run P w = .ok b w
  | 0, _, _, _, _, _, _, h, _, _, _, _, _ => by simp [eqT] at h
  | d + 1, t, x, y, u, v, b, h, hx, hy, 0, hD, w => by omega
  | d + 1, t, x, y, u, v, b, h, hx, hy, D + 1, hD, w => by
    have hsub : ∀ (e : TypeId) (o : Nat) (xs ys : List AV) (us vs : List Value), AVRs ρ xs us → AVRs ρ ys vs → ∀ b, (match partOf P e xs o, partOf P e ys o with | some a, some b => eqT P d e a b | _, _ => none) = some b →
        ∀ w, (do let a ← part e us.toArray o; let c ← part e vs.toArray o; Op.equalIn D e a c : Sem Bool).run P w = .ok b w := by
      intro e o xs ys us vs hxs hys b hb w
      split at hb
      · rename_i a c ha hc
        obtain ⟨ua, hua, hra⟩ := part_sound (P := P) ha hxs
        obtain ⟨uc, huc, hrc⟩ := part_sound (P := P) hc hys
        simp only [Sem.run_bind, hra, hrc, Result.andThen_ok]
        exact eqT_sound d hb hua huc D (by omega) w
      · simp at hb
    unfold eqT at h
    split at h
    · rename_i fs ht
      split at h
      · simp at h
      · rename_i hp
        split at h
        · rename_i xs ys
          split at h
          · rename_i bs hbs
            simp at h; subst h
            cases hx with
            | agg hx => cases hy with
              | agg hy =>
                have hfo : P.fieldsOf t = fs := by simp [Program.fieldsOf, ht]
                rw [run_equalIn_struct w D t _ _ (by rw [hfo]; exact ht) hp, hfo]
                exact eqFields_sound (fun fd => match partOf P fd.type xs fd.offset, partOf P fd.type ys fd.offset with | some a, some b => eqT P d fd.type a b | _, _ => none)
                  (fun fd b hb w => hsub fd.type fd.offset xs ys _ _ hx hy b hb w) fs.toList bs hbs w
          · simp at h
        · simp at h
    · rename_i n e ht
      split at h
      · rename_i xs ys i hi
        split at h
        · rename_i bs hbs
          simp at h; subst h
          cases hx with
          | agg hx => cases hy with
            | agg hy =>
              have := eqElems_sound (P := P) (D := D) (s := i.size) (e := e) (fun j => match partOf P e xs (j * i.size), partOf P e ys (j * i.size) with | some a, some b => eqT P d e a b | _, _ => none)
                (fun j b hb w => hsub e (j * i.size) xs ys _ _ hx hy b hb w) (List.range n) bs hbs w
              simp only [Op.equalIn, Sem.run_bind, run_und ht, Result.andThen_ok, sizeOf, run_tinfo hi, Sem.run_pure]
              rw [Std.Legacy.Range.forIn_eq_forIn_range']
              simp only [Std.Legacy.Range.size, Nat.sub_zero, Nat.add_sub_cancel, Nat.div_one, ← List.range_eq_range']
              rw [this]
              cases andAll bs <;> simp
        · simp at h
      · simp at h
    · rename_i dsc _ _ ht
      exact eqCell_sound ht h hx hy D w
    · simp at h

end
end Go.Sx
