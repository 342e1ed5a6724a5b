/-
  The calculus (SxA): regions, in the order of the text, and in whatever order.
-/
import Derived.Test.YthfgocpejlhanaaSxI
import Derived.Test.YthfgocpejlhanaaSxO
import Derived.Test.YthfgocpejlhanaaSxN
import Derived.Test.YthfgocpejlhanaaSxFz
import Derived.Laws.BytesString
namespace Go.Sx
open Go.RowKit

section
variable {P : Program}

theorem wanted_sound {ρ : List Loc} {ops : Array Oper} {o : Oper} {st : St} {hs : List Hint} {K : Bool → St → List Hint → Prop} {a : Act} (h : wanted ops.toList o st hs K) (hT : TmpsR ρ st.t a) :
    ∃ b st' hs', K b st' hs' ∧ Region.wanted o (yielded ops a.tmps) = b ∧ TmpsR ρ st'.t a ∧ st'.h = st.h := by
  unfold wanted at h
  split at h
  · rename_i hg
    exact ⟨_, _, _, h, by simp [Region.wanted, hg], hT, rfl⟩
  · rename_i j want hg
    split at h
    · rename_i oj hoj
      split at h
      · rename_i d hd
        split at h
        · rename_i vs htup
          have hdt : st.t[d]? = some (.lit (.tuple vs)) := by
            rw [List.getD_eq_getElem?_getD] at htup
            cases hx : st.t[d]? with
            | none => simp [hx] at htup
            | some x => simpa [hx] using htup
          obtain ⟨v, hv, hr⟩ := hT.get d _ hdt
          cases hr
          have hoj' : ops[j]? = some oj := by simpa using hoj
          exact ⟨_, _, _, h, by simp [Region.wanted, hg, yielded, hoj', hd, hv], hT, rfl⟩
        obtain ⟨s, p, hs', hb, hk⟩ := test_iff h
        have hdt : ∃ x, st.t[d]? = some x ∧ x.asBool = some (s, p) := by
          rw [List.getD_eq_getElem?_getD] at hb
          cases hx : st.t[d]? with
          | none => simp [hx, AV.asBool] at hb
          | some x => exact ⟨x, rfl, by simpa [hx] using hb⟩
        obtain ⟨x, hx, hxb⟩ := hdt
        obtain ⟨v, hv, hr⟩ := hT.get d x hx
        have hvb := asBool_rel hr hxb
        subst hvb
        refine ⟨_, _, _, hk, ?_, ?_, rfl⟩
        · have hoj' : ops[j]? = some oj := by simpa using hoj
          simp [Region.wanted, hg, yielded, hoj', hd, hv]
        · refine ⟨by simp [hT.len], fun i y hy => ?_⟩
          by_cases hid : d = i
          · subst hid
            have hlt : d < st.t.length := (List.getElem?_eq_some_iff.1 hx).1
            rw [List.getElem?_set_self hlt] at hy
            cases hy
            exact ⟨_, hv, .lit _⟩
          · rw [List.getElem?_set_ne hid] at hy
            exact hT.get i y hy
      · exact h.elim
    · exact h.elim

theorem TmpsR.putSt {ρ : List Loc} {st : St} {a : Act} (hT : TmpsR ρ st.t a) (d : Option Tmp) {x : AV} {v : Value} (hr : AVR ρ x v) : TmpsR ρ (st.put d x).t (a.put d v) := by
  cases d with
  | none => exact hT
  | some d => exact hT.put d hr

theorem St.put_h (st : St) (d : Option Tmp) (x : AV) : (st.put d x).h = st.h := by cases d <;> rfl

theorem put_defers (a : Act) (d : Option Tmp) (v : Value) : (a.put d v).defers = a.defers := by cases d <;> rfl

theorem bytes_rel {ρ : List Loc} : ∀ {xs : List AV} {bs : List UInt8} {vs : List Value}, allSome (xs.map byteOf) = some bs → AVRs ρ xs vs → ∃ ns : List Int, vs = ns.map (Value.int .u8) ∧ bs = ns.map fun n => UInt8.ofNat n.toNat
  | [], bs, _, h, .nil => ⟨[], rfl, by simp [allSome] at h; simp [h]⟩
  | x :: xs, bs, _, h, .cons h0 h1 => by
    simp only [List.map_cons] at h
    cases hb : byteOf x with
    | none => simp [hb, allSome] at h
    | some b =>
      simp only [hb, allSome] at h
      split at h
      · rename_i r hr
        obtain ⟨ns, e1, e2⟩ := bytes_rel hr h1
        simp at h; subst h
        unfold byteOf at hb
        split at hb
        · rename_i n; cases h0; simp at hb; exact ⟨n :: ns, by simp [e1], by simp [e2, hb]⟩
        · rename_i n; cases h0; simp at hb; exact ⟨n :: ns, by simp [e1], by simp [e2, hb]⟩
        · simp at hb
      · simp at h

theorem allSome_mem {α : Type} : ∀ {l : List (Option α)} {r : List α}, allSome l = some r → ∀ {x : Option α}, x ∈ l → ∃ a, x = some a
  | [], _, _, _, hx => by cases hx
  | none :: _, _, h, _, _ => by simp [allSome] at h
  | some a :: l, r, h, x, hx => by
    simp only [allSome] at h
    split at h
    · rename_i r' hr
      rcases List.mem_cons.1 hx with rfl | hx
      · exact ⟨a, rfl⟩
      · exact allSome_mem hr hx
    · cases h

theorem push_all : ∀ (ns : List Int) (s : ByteArray), ns.foldl (fun r n => r.push (UInt8.ofNat n.toNat)) s = ⟨s.data ++ (ns.map fun n => UInt8.ofNat n.toNat).toArray⟩
  | [], s => by simp
  | n :: ns, s => by
    rw [List.foldl_cons, push_all ns]
    simp [ByteArray.push]

theorem evConv_sound {B : Gd} {ρ : List Loc} {st : St} {o : Oper} {s d : TypeId} {x : Operand} {K : St → Prop} {a : Act} {w0 : World} (hop : o.op = .convert s d x) (h : evConv P st o s d x K) (hH : HpR B ρ st.h w0) (hT : TmpsR ρ st.t a) :
    ∃ v, ∃ y, o.guard = none ∧ (∀ w, w = w0 → (execOp a.eval o).run P w = .ok (.value v) w) ∧ AVR ρ y v ∧ K (st.put o.dst y) := by
  obtain ⟨dst, op, type, pos, after, guard⟩ := o
  dsimp only at hop
  subst hop
  unfold evConv at h
  dsimp only at h
  split at h
  · exact h.elim
  · rename_i hg
    split at h
    · rename_i e r i len b h1 h2 hx
      split at h
      · rename_i k h3 hs hk
        split at h
        · rename_i bs hd hbs
          obtain ⟨g1, g2⟩ := of_decide_eq_true hd
          have hr := hT.op x
          rw [hx] at hr
          obtain ⟨l, ad, c, news, hl, hv, hlen, hri, hcell, _⟩ := slice_vals hH hr hk g2 (by omega)
          rw [g1] at hlen hri
          have hvs : AVRs (if k.flat then [] else ρ) ((k.elems.drop i).take len) news := by
            refine AVRs.mk (by rw [List.length_take, List.length_drop]; omega) fun j e v he hv => ?_
            obtain ⟨q1, q2, q3⟩ := hri j e he
            obtain ⟨b, hb⟩ := allSome_mem hbs (List.mem_map_of_mem (List.mem_of_getElem? he))
            have hec : e.cells = [e] := by
              unfold byteOf at hb
              split at hb
              · rfl
              · rfl
              · cases hb
            obtain ⟨v', hv', hr⟩ := q3 0 e (by rw [hec]; rfl)
            simp only [Nat.mul_one, Nat.add_zero] at hv'
            rw [hv] at hv'; cases hv'
            exact hr
          obtain ⟨ns, e1, e2⟩ := bytes_rel hbs hvs
          refine ⟨_, _, rfl, fun w hw => ?_, .val _, h⟩
          subst hw
          have hlc := run_loadCells_list (P := P) (w := w) ad news hcell
          rw [hlen, Nat.mul_one, e1] at hlc
          have hb := run_bytesToString (P := P) w ad len c ns hlc
          simp only [execOp, hv, Sem.run_bind, convert, run_und h1, run_und h2, Result.andThen_ok, run_und h3, hb]
          rw [e2, push_all, ByteArray.data_empty, Array.empty_append]
          rfl
        · exact h.elim
      · exact h.elim
    · exact h.elim

theorem mget_none : ∀ {m : List MB} {b : Nat}, (∀ x ∈ m, x.b ≠ b) → M.mget (memE m) b = none
  | [], _, _ => rfl
  | x :: m, b, h => by
    simp only [memE, List.map_cons, M.mblk, M.mget]
    rw [if_neg (by have := h x List.mem_cons_self; omega)]
    exact mget_none fun y hy => h y (List.mem_cons_of_mem _ hy)

theorem rawC_rels {ρ : List Loc} : ∀ {xs : List AV} {vs : List Value}, AVRs ρ xs vs → (xs.map rawC).all AV.plain1 = true → AVRs [] (xs.map rawC) vs
  | _, _, .nil, _ => .nil
  | _, _, .cons h0 h1, hp => by
    simp only [List.map_cons, List.all_cons, Bool.and_eq_true] at hp
    exact .cons (AVR.plain1 hp.1 (rawC_rel h0)).1 (rawC_rels h1 hp.2)

/-- A new block of raw memory. -/
theorem evNew_sound {B : Gd} {ρ : List Loc} {st : St} {o : Oper} {t : TypeId} {K : Nat → St → Prop} {w : World} (hop : o.op = .alloc t) (h : evNew P st o t K) (hH : HpR B ρ st.h w) :
    ∃ b w', o.guard = none ∧ (∀ a : Act, (execOp a.eval o).run P w = .ok (.value (.pointer (some ⟨b, 0, none⟩))) w') ∧ ∃ h', HpR B ρ h' w' ∧ Bel B w w' ∧ K b (({ st with h := h' } : St).put o.dst (.val (.pointer (some ⟨b, 0, none⟩)))) := by
  obtain ⟨dst, op, type, pos, after, guard⟩ := o
  dsimp only at hop
  subst hop
  unfold evNew at h
  dsimp only at h
  split at h
  · exact h.elim
  · split at h
    · rename_i r k z hm hz
      split at h
      · rename_i hc
        simp only [Bool.and_eq_true] at hc
        obtain ⟨⟨hw, hp⟩, _⟩ := hc
        obtain ⟨i, zv, hi, hzv, hzs, rfl⟩ := zeroOf_info hz
        obtain ⟨hob, hty, l, hl⟩ := hH.memory hm
        obtain ⟨o, hO⟩ := hH.objs
        obtain ⟨h1, h2, _, _⟩ := hO.is r k l hob hl
        rw [hty] at h1
        obtain ⟨m, hes, hR⟩ := h1.rawMem (fun _ _ => rawI_mem) fun _ _ => reprO_mem
        have hfresh : ∀ x ∈ m, x.b < w.heap.size := fun x hx => h2 _ (hR.is x hx).1
        have hK := h w.heap.size (by rw [hes]; exact mget_none fun x hx e => absurd (hfresh x hx) (by omega))
        have hsz : (w.alloc (.cells zv.cells t)).heap.size = w.heap.size + 1 := World.size_alloc _ _
        have hold : ∀ b, b < w.heap.size → (w.alloc (.cells zv.cells t)).heap[b]? = w.heap[b]? := fun b hb => Below.heap_alloc w _ b hb
        have hRn : RawR (m ++ [⟨w.heap.size, t, (liftV zv).cells.map rawC⟩]) l.b (w.heap.size :: o r) (w.alloc (.cells zv.cells t)) := by
          refine ⟨?_, fun x hx => ?_, ?_⟩
          · rw [List.map_append]
            refine List.nodup_append.2 ⟨hR.nd, by simp, fun a ha b hb e => ?_⟩
            obtain ⟨x, hx, rfl⟩ := List.mem_map.1 ha
            have hb : b = w.heap.size := by simpa using hb
            have := hfresh x hx
            omega
          · rcases List.mem_append.1 hx with hx | hx
            · obtain ⟨a, cur, c, d⟩ := hR.is x hx
              exact ⟨List.mem_cons_of_mem _ a, cur, (hold _ (hfresh x hx)).trans c, d⟩
            · have hx : x = _ := List.mem_singleton.1 hx
              subst hx
              have hr := rawC_rels (liftV_cells (ρ := []) zv) hp
              exact ⟨List.mem_cons_self, zv.cells, heap_alloc_new w _, by show AVRs [] _ (List.take ((liftV zv).cells.map rawC).length zv.cells.toList); rw [hr.length, List.take_length]; exact hr⟩
          · obtain ⟨x, hx, e⟩ := hR.hd
            exact ⟨x, by rw [List.getElem?_append_left (List.getElem?_eq_some_iff.1 hx).1]; exact hx, e⟩
        have hb : Bel (but w.heap.size (o r)) w (w.alloc (.cells zv.cells t)) := ⟨⟨rfl, rfl, rfl, by rw [hsz]; omega, fun j hj => hold j hj.1⟩, fun _ => Nat.le_refl _⟩
        obtain ⟨g1, g2⟩ := hH.mutObj hO hob (by rw [hty]; decide) hl hw hb (es := memE (m ++ [⟨w.heap.size, t, (liftV zv).cells.map rawC⟩])) (by rw [hty]; exact .raw _ (.inl ⟨rfl, rfl⟩) hRn) fun b hbm => by
          rcases List.mem_cons.1 hbm with rfl | hbm
          · exact ⟨by rw [hsz]; omega, fun hx => Nat.lt_irrefl _ hx.1⟩
          · exact ⟨by rw [hsz]; exact Nat.lt_succ_of_lt (h2 b hbm), fun hx => hx.2 hbm⟩
        refine ⟨w.heap.size, w.alloc (.cells zv.cells t), rfl, fun a => by simp [execOp, Instr.alloc, run_zero hi hzv, newVar, _root_.Go.newRow], _, g1, g2, ?_⟩
        rw [hty, show memE (m ++ [⟨w.heap.size, t, (liftV zv).cells.map rawC⟩]) = k.elems ++ [M.mblk w.heap.size t ((liftV zv).cells.map rawC)] by rw [hes]; simp [memE]]
        exact hK
      · exact h.elim
    · exact h.elim

/-- What one operation of a region leaves. -/
def LeftS (ρ : List Loc) (B N : Gd) (w : World) (h : Hp) (g : Bool) (ds : List Deferred) (K : St → List Hint → Prop) (a' : Act) (w' : World) : Prop :=
  ∃ ρ' st' hs', K st' hs' ∧ TmpsR (ρ ++ ρ') st'.t a' ∧ HpR B (ρ ++ ρ') st'.h w' ∧ a'.defers = ds ∧ Bel N w w' ∧ (g = true → h <+: st'.h)

theorem evOne_sound {B : Gd} {ρ : List Loc} {st : St} {ops : Array Oper} {i : Nat} {o : Oper} (ho : ops[i]? = some o) {hs : List Hint} {K : St → List Hint → Prop} {a : Act} {w : World} {g : Bool} {C : Call} (hC : COK P g C) (hg : g = true → growing o.op = true)
    (h : evOne C P ops.toList o st hs K) (hH : HpR B ρ st.h w) (hT : TmpsR ρ st.t a) {next : Act → World → Prop} {Q : Exit → Act → World → Prop}
    (hn : ∀ a' w', LeftS ρ B (if g then bl w.heap.size else B) w st.h g a.defers K a' w' → next a' w') : wpOp P ops Q i next a w := by
  unfold evOne at h
  simp only [fSt_eq] at h
  obtain ⟨b, st', hs', hk, hw, hT', hh⟩ := wanted_sound h hT
  unfold wpOp
  simp only [ho]
  rw [hw]
  cases b with
  | true =>
    simp only [if_true]
    refine .inl (evOp_sound hC hg hk (hh ▸ hH) hT' fun u w' hl => ?_)
    obtain ⟨ρ', x, h', hs'', hK, hx, hH', hb, hp⟩ := hl
    refine hn _ _ ⟨ρ', _, _, hK, ?_, by rw [St.put_h]; exact hH', put_defers _ _ _, hb, fun hg => by rw [St.put_h, ← hh]; exact hp hg⟩
    have : TmpsR (ρ ++ ρ') ({ st' with h := h' } : St).t a := hT'.app ρ'
    exact TmpsR.putSt this o.dst hx
  | false =>
    simp only [Bool.false_eq_true, if_false]
    exact hn _ _ ⟨[], _, _, hk, by simpa using hT'.putSt o.dst (.lit undef), by rw [St.put_h, hh]; simpa using hH, put_defers _ _ _, Bel.refl _ _, fun _ => by rw [St.put_h, hh]; exact List.prefix_refl _⟩

theorem LeftS.trans {ρ : List Loc} {B N : Gd} {w w' : World} {h h' : Hp} {g : Bool} {ds : List Deferred} {K : St → List Hint → Prop} {a'' : Act} {w'' : World} {ρ' : List Loc} (hl : LeftS (ρ ++ ρ') B N w' h' g ds K a'' w'') (hb : Bel N w w') (hp : g = true → h <+: h') :
    LeftS ρ B N w h g ds K a'' w'' := by
  obtain ⟨ρ2, st', hs', k, t, hh, d, b, p⟩ := hl
  exact ⟨ρ' ++ ρ2, st', hs', k, by simpa using t, by simpa using hh, d, hb.trans b, fun hg => (hp hg).trans (p hg)⟩

theorem evOps_sound {B : Gd} {C : Call} (hC : COK P false C) {ops : Array Oper} {Q : Exit → Act → World → Prop} : ∀ (rest : List Oper) (i : Nat), ops.toList.drop i = rest → ∀ {ρ : List Loc} {st : St} {hs : List Hint} {K : St → List Hint → Prop} {a : Act} {w : World},
    evOps C P ops.toList rest st hs K → HpR B ρ st.h w → TmpsR ρ st.t a → (∀ a' w', LeftS ρ B B w st.h false a.defers K a' w' → Q .normal a' w') → wpOps P ops Q (List.range' i rest.length) a w
  | [], i, hd, ρ, st, hs, K, a, w, h, hH, hT, hn => by
    simp only [List.length_nil, List.range'_zero, wpOps]
    exact hn _ _ ⟨[], st, hs, h, by simpa using hT, by simpa using hH, rfl, Bel.refl _ _, by simp⟩
  | o :: rest, i, hd, ρ, st, hs, K, a, w, h, hH, hT, hn => by
    have ho : ops[i]? = some o := by
      have : (ops.toList.drop i)[0]? = some o := by rw [hd]; rfl
      rw [List.getElem?_drop] at this
      simpa using this
    have hrest : ops.toList.drop (i + 1) = rest := by rw [← List.tail_drop, hd]; rfl
    rw [List.length_cons, List.range'_succ, wpOps_cons]
    have h : (∃ s d x hs', o.op = .convert s d x ∧ evConv P st o s d x fun st => evOps C P ops.toList rest st hs' K) ∨ (∃ (t : TypeId) (f : Nat → List Hint), o.op = .alloc t ∧ evNew P st o t fun b st => evOps C P ops.toList rest st (f b) K) ∨ evOne C P ops.toList o st hs fun st hs => ghostT o.dst st hs fun st hs => evOps C P ops.toList rest st hs K := by
      unfold evOps at h
      split at h
      · rename_i s d x hs' e; exact .inl ⟨s, d, x, _, e, h⟩
      · rename_i t f _ e
        simp only [fSt_eq] at h
        exact .inr (.inl ⟨t, f, e, h⟩)
      · exact .inr (.inr h)
    rcases h with ⟨s, d, x, hs', hop, h⟩ | ⟨t, f, hop, h⟩ | h
    · obtain ⟨v, K', hg, hr, hv, hk⟩ := evConv_sound hop h hH hT
      unfold wpOp
      simp only [ho]
      rw [show Region.wanted o (yielded ops a.tmps) = true by simp [Region.wanted, hg], if_pos rfl]
      refine .inl (wp_of_value (hr w rfl) ?_)
      have := evOps_sound hC rest (i + 1) hrest hk (by rw [St.put_h]; exact hH) (hT.putSt o.dst hv) (Q := Q) (w := w) fun a'' w'' hl' => hn _ _ (by
        rw [put_defers, St.put_h] at hl'; exact hl')
      exact this
    · obtain ⟨b, w', hg, hr, h', hH', hb, hk⟩ := evNew_sound hop h hH
      unfold wpOp
      simp only [ho]
      rw [show Region.wanted o (yielded ops a.tmps) = true by simp [Region.wanted, hg], if_pos rfl]
      refine .inl (wp_of_value (hr a) ?_)
      exact evOps_sound hC rest (i + 1) hrest hk (by rw [St.put_h]; exact hH') (TmpsR.putSt (st := ⟨st.t, h'⟩) hT o.dst (.val (.pointer (some ⟨b, 0, none⟩)))) (Q := Q) (w := w') fun a'' w'' hl' => hn _ _ (by
        rw [put_defers, St.put_h] at hl'
        obtain ⟨ρ2, st2, hs2, k2, t2, h2, d2, b2, _⟩ := hl'
        exact ⟨ρ2, st2, hs2, k2, t2, h2, d2, hb.trans b2, by simp⟩)
    refine evOne_sound ho hC (by simp) h hH hT fun a' w' hl => ?_
    obtain ⟨ρ', st', hs', hk, hT', hH', hd', hb, _⟩ := hl
    obtain ⟨ρ2, st2, hs2, hk2, hH2, hT2⟩ := ghostT_sound hk hH' hT'
    refine evOps_sound hC rest (i + 1) hrest hk2 hH2 hT2 fun a'' w'' hl' => hn _ _ ?_
    rw [hd', List.append_assoc] at hl'
    exact hl'.trans (h' := st2.h) hb (by simp)

theorem freeze_get {h : Hp} {r : Nat} {k : Blk} (hk : (freeze h : Hp)[r]? = some (some k)) : ∃ k', h[r]? = some (some k') ∧ k = { k' with wr := false } := by
  unfold freeze at hk
  rw [List.getElem?_map] at hk
  cases hg : h[r]? with
  | none => simp [hg] at hk
  | some o => cases o with
    | none => simp [hg] at hk
    | some k' => obtain ⟨w, t, s, f, es⟩ := k'; simp [hg] at hk; exact ⟨_, rfl, hk.symm⟩

theorem freeze_row {h : Hp} {r : Nat} {k : Blk} (hk : (freeze h : Hp).row r = some k) : ∃ k', h.row r = some k' ∧ k = { k' with wr := false } := by
  obtain ⟨h1, h2⟩ := get_row.1 hk
  obtain ⟨k', h3, rfl⟩ := freeze_get h1
  exact ⟨k', get_row.2 ⟨h3, h2⟩, rfl⟩

theorem freeze_obj {h : Hp} {r : Nat} {k : Blk} (hk : (freeze h : Hp).obj r = some k) : ∃ k', h.obj r = some k' ∧ k = { k' with wr := false } := by
  obtain ⟨h1, h2⟩ := get_obj.1 hk
  obtain ⟨k', h3, rfl⟩ := freeze_get h1
  exact ⟨k', get_obj.2 ⟨h3, h2⟩, rfl⟩

theorem HpR.freeze {B : Gd} {ρ : List Loc} {h : Hp} {w : World} (hH : HpR B ρ h w) : HpR w.heap.size ρ (Sx.freeze h) w := by
  refine ⟨by simp [Sx.freeze, hH.len], .refl _, fun r k l hk hl => ?_, fun r r' k k' l l' hk _ hw _ _ _ => ?_, hH.glob.mono hH.base, hH.objs.elim fun o hO => ⟨_, hO.via id (fun _ _ _ _ _ _ h => h) (fun r k l hk hl => ?_) (fun r k l hk hl => ?_) fun r k hk => let ⟨k', hk', _⟩ := freeze_obj hk; hO.here r k' hk'⟩⟩
  · obtain ⟨k', hk', rfl⟩ := freeze_row hk
    obtain ⟨cur, ty, fr, h1, h2, _⟩ := (hH.blk r k' l hk' hl).rowIs
    exact .ofRow (hH.blk r k' l hk' hl).esz h1 h2 (by simp)
  · obtain ⟨k1, _, rfl⟩ := freeze_row hk; simp at hw
  · obtain ⟨k', hk', rfl⟩ := freeze_obj hk
    exact ⟨hl, k', hk', rfl, rfl, fun h => by simp at h⟩
  · obtain ⟨k', hk', rfl⟩ := freeze_row hk
    exact ⟨hl, k', hk', fun h => by simp at h⟩

theorem thaw_get {h h' : Hp} {r : Nat} {k : Blk} (hk : (thaw h h' : Hp)[r]? = some (some k)) : (r < h.length ∧ h[r]? = some (some k)) ∨ (h.length ≤ r ∧ h'[r]? = some (some k) ∧ k.wr = true) := by
  unfold thaw at hk
  by_cases hlt : r < h.length
  · rw [List.getElem?_append_left hlt] at hk; exact .inl ⟨hlt, hk⟩
  · right
    rw [List.getElem?_append_right (by omega), List.getElem?_map, List.getElem?_drop, show h.length + (r - h.length) = r from by omega] at hk
    refine ⟨by omega, ?_⟩
    cases hg : h'[r]? with
    | none => simp [hg] at hk
    | some o => cases o with
      | none => simp [hg] at hk
      | some k' =>
        simp only [hg, Option.map_some] at hk
        cases hw : k'.wr with
        | false => simp [hw] at hk
        | true => simp [hw] at hk; subst hk; exact ⟨rfl, hw⟩

theorem thaw_row {h h' : Hp} {r : Nat} {k : Blk} (hk : (thaw h h' : Hp).row r = some k) : (r < h.length ∧ h.row r = some k) ∨ (h.length ≤ r ∧ h'.row r = some k ∧ k.wr = true) := by
  obtain ⟨h1, h2⟩ := get_row.1 hk
  rcases thaw_get h1 with ⟨a, b⟩ | ⟨a, b, c⟩
  · exact .inl ⟨a, get_row.2 ⟨b, h2⟩⟩
  · exact .inr ⟨a, get_row.2 ⟨b, h2⟩, c⟩

theorem thaw_obj {h h' : Hp} {r : Nat} {k : Blk} (hk : (thaw h h' : Hp).obj r = some k) : (r < h.length ∧ h.obj r = some k) ∨ (h.length ≤ r ∧ h'.obj r = some k ∧ k.wr = true) := by
  obtain ⟨h1, h2⟩ := get_obj.1 hk
  rcases thaw_get h1 with ⟨a, b⟩ | ⟨a, b, c⟩
  · exact .inl ⟨a, get_obj.2 ⟨b, h2⟩⟩
  · exact .inr ⟨a, get_obj.2 ⟨b, h2⟩, c⟩

theorem thaw_ok {B : Gd} {ρ ρ' : List Loc} {h h' : Hp} {w w' : World} (hH : HpR B ρ h w) (hh : HpR w.heap.size (ρ ++ ρ') h' w') (hb : Bel (bl w.heap.size) w w') : HpR B (ρ ++ ρ') (thaw h h') w' := by
  have hold := hH.below hb
  have hl := hh.len
  have hl0 := hH.len
  rw [List.length_append] at hl
  have oldl : ∀ {r : Nat} {l : Loc}, r < h.length → At (ρ ++ ρ') r l → At ρ r l := by
    rintro r l hr ⟨hl', hp⟩; rw [List.getElem?_append_left (by omega)] at hl'; exact ⟨hl', hp⟩
  have newB : ∀ {r k l}, h'.row r = some k → At (ρ ++ ρ') r l → k.wr = true → w.heap.size ≤ l.b := by
    intro r k l hk hl hw
    obtain ⟨cur, ty, fr, h1, h2, h3⟩ := (hh.blk r k l hk hl).rowIs
    exact Nat.le_of_not_lt (h3 hw).2.2.2.2.2.1
  obtain ⟨o, hO⟩ := hH.objs
  have hOw : ObjsO o B ρ h w' := hO.change hb.size fun _ _ _ hk hl b hb' => hb.block _ (hO.lt hk hl b hb')
  obtain ⟨o', hO'⟩ := hh.objs
  have newO : ∀ {r k l}, h'.obj r = some k → At (ρ ++ ρ') r l → k.wr = true → ∀ b ∈ o' r, w.heap.size ≤ b := fun hk hl hw b hb => Nat.le_of_not_lt ((hO'.is _ _ _ hk hl).2.2.1 hw b hb)
  have lo : ∀ {r}, r < h.length → (if r < h.length then o r else o' r) = o r := fun h => if_pos h
  have hi : ∀ {r}, h.length ≤ r → (if r < h.length then o r else o' r) = o' r := fun h => if_neg (Nat.not_lt.2 h)
  refine ⟨by simp [thaw]; omega, hH.base.trans (bl_mono hb.size), fun r k l hk hl' => ?_, fun r r' k k' l l' hk hk' hw hne hl1 hl2 => ?_, hold.glob, fun r => if r < h.length then o r else o' r, fun r k l hk hl' => ?_, fun r r' k k' l l' hk hk' hl1 hl2 hww hm => ?_, fun r r' k k' l l' hk hk' hne hl1 hl2 b hm hm' => ?_, fun r k hk => ?_⟩
  rotate_left 5
  · rcases thaw_obj hk with ⟨_, hk⟩ | ⟨_, hk, _⟩
    · exact let ⟨l', hl'⟩ := hO.here r k hk; ⟨l', getElem?_app _ hl'⟩
    · exact hO'.here r k hk
  · rcases thaw_row hk with ⟨hr, hk⟩ | ⟨hr, hk, hw⟩
    · exact (hold.blk r k l hk (oldl hr hl')).app _
    · exact (hh.blk r k l hk hl').gd fun _ hB => absurd (hH.base _ hB) (Nat.not_lt.2 (newB hk hl' hw))
  · rcases thaw_row hk with ⟨hr, g⟩ | ⟨hr, g, hwk⟩ <;> rcases thaw_row hk' with ⟨hr', g'⟩ | ⟨hr', g', hwk'⟩
    · exact hold.sep r r' k k' l l' g g' hw hne (oldl hr hl1) (oldl hr' hl2)
    · have h1 := (hH.blk r k l g (oldl hr hl1)).lt
      have h2 := newB g' hl2 hwk'
      omega
    · have h1 := (hH.blk r' k' l' g' (oldl hr' hl2)).lt
      have h2 := newB g hl1 hwk
      omega
    · exact hh.sep r r' k k' l l' g g' hw hne hl1 hl2
  · rcases thaw_obj hk with ⟨hr, hk⟩ | ⟨hr, hk, hw⟩
    · rw [lo hr]; exact hOw.is r k l hk (oldl hr hl')
    · rw [hi hr]
      obtain ⟨a1, a2, a3, a4⟩ := hO'.is r k l hk hl'
      exact ⟨a1, a2, fun hw b hb' hB => a3 hw b hb' (hH.base _ hB), a4⟩
  · rcases thaw_obj hk with ⟨hr, g⟩ | ⟨hr, g, hwk⟩ <;> rcases thaw_row hk' with ⟨hr', g'⟩ | ⟨hr', g', hwk'⟩
    · rw [lo hr] at hm; exact hOw.row r r' k k' l l' g g' (oldl hr hl1) (oldl hr' hl2) hww hm
    · rw [lo hr] at hm
      have h1 := hO.lt g (oldl hr hl1) _ hm
      have h2 := newB g' hl2 hwk'
      omega
    · rw [hi hr] at hm
      have h1 := (hH.blk r' k' l' g' (oldl hr' hl2)).lt
      have h2 := newO g hl1 hwk _ hm
      omega
    · rw [hi hr] at hm; exact hO'.row r r' k k' l l' g g' hl1 hl2 hww hm
  · rcases thaw_obj hk with ⟨hr, g⟩ | ⟨hr, g, hwk⟩ <;> rcases thaw_obj hk' with ⟨hr', g'⟩ | ⟨hr', g', hwk'⟩
    · rw [lo hr] at hm; rw [lo hr'] at hm'; exact hOw.obj r r' k k' l l' g g' hne (oldl hr hl1) (oldl hr' hl2) b hm hm'
    · rw [lo hr] at hm; rw [hi hr'] at hm'
      have h1 := hO.lt g (oldl hr hl1) _ hm
      have h2 := newO g' hl2 hwk' _ hm'
      omega
    · rw [hi hr] at hm; rw [lo hr'] at hm'
      have h1 := hO.lt g' (oldl hr' hl2) _ hm'
      have h2 := newO g hl1 hwk _ hm
      omega
    · rw [hi hr] at hm; rw [hi hr'] at hm'; exact hO'.obj r r' k k' l l' g g' hne hl1 hl2 b hm hm'

theorem frozenC_ok {C : Call} (hC : COK P false C) : COK P true (frozenC C) := by
  refine ⟨hC.maps, ?_⟩
  intro f args h hs K hK B ρ w vs hH hv
  have := hC f args (Sx.freeze h) hs _ hK w.heap.size ρ w vs hH.freeze hv
  have conv : ∀ u w', (∃ ρ' x h' hs', K x (thaw h h') hs' ∧ AVR (ρ ++ ρ') x u ∧ HpR w.heap.size (ρ ++ ρ') h' w' ∧ Bel (if false = true then bl w.heap.size else bl w.heap.size) w w' ∧ (false = true → Sx.freeze h <+: h')) →
      ∃ ρ' x h' hs', K x h' hs' ∧ AVR (ρ ++ ρ') x u ∧ HpR B (ρ ++ ρ') h' w' ∧ Bel (if true = true then bl w.heap.size else B) w w' ∧ (true = true → h <+: h') := by
    rintro u w' ⟨ρ', x, h', hs', k, hx, hh, hb, _⟩
    have hb : Bel (bl w.heap.size) w w' := by simpa using hb
    exact ⟨ρ', x, thaw h h', hs', k, hx, thaw_ok hH hh hb, hb, fun _ => List.prefix_append _ _⟩
  rcases this with ⟨hr, hc⟩ | ⟨v, w', hr, hl⟩
  · exact .inl ⟨hr, hc.mono fun e w' he => by cases e with
      | returned v => exact conv v w' he
      | panicked c => exact he
      | outgrown => exact he⟩
  · exact .inr ⟨v, w', hr, conv v w' hl⟩

theorem evOp_quiet {C : Call} {st : St} {o : Op} {hs : List Hint} {K : AV → Hp → List Hint → Prop} (hq : quiet o = true) (h : evOp C P st o hs K) : qOp P st o hs fun v hs => K v st.h hs := by
  unfold evOp at h
  split at h <;> first | (simp [quiet] at hq; done) | skip
  · rename_i args argTypes
    have hq : mapArg argTypes.toList = false := by simpa [quiet] using hq
    rw [hq] at h
    exact h
  rw [hq] at h
  exact h

theorem blind_quiet {o : Op} (h : blind o = true) : quiet o = true := by
  cases o <;> first | exact h | simp [blind] at h

theorem wpAnyH_mono {md : Region.Mode} {ops : Array Oper} {Q : Exit → Act → World → Prop} {S S' : World → Prop} (hS : ∀ w, S' w → S w) : ∀ (fuel : Nat) (listed : Array Bool) (a : Act) (w : World), wpAnyH P md ops Q S' fuel listed a w → wpAnyH P md ops Q S fuel listed a w
  | 0, _, _, _, h => h
  | fuel + 1, _, _, _, h => ⟨h.1, fun i hi => wpOp_mono (fun a' w' h' => ⟨hS _ h'.1, wpAnyH_mono hS fuel _ a' w' h'.2⟩) (h.2 i hi)⟩

theorem allOf_mem {p : Nat → Prop} : ∀ {l : List Nat}, evAny.allOf l p → ∀ i ∈ l, p i
  | [], _, i, hi => by simp at hi
  | [j], h, i, hi => by simp at hi; subst hi; exact h
  | j :: k :: l, h, i, hi => by
    simp only [List.mem_cons] at hi
    rcases hi with rfl | hi
    · exact h.1
    · exact allOf_mem h.2 i (by simpa using hi)

theorem prefix_row {h h' : Hp} (hp : h <+: h') {r : Nat} {k : Blk} (hk : h.row r = some k) : h'.row r = some k := by
  obtain ⟨t, rfl⟩ := hp
  have hlt := row_lt hk
  obtain ⟨h1, h2⟩ := get_row.1 hk
  exact get_row.2 ⟨by rw [List.getElem?_append_left hlt]; exact h1, h2⟩

theorem Same.trans {ρ ρ' : List Loc} {h h' : Hp} {w w' w'' : World} (a : Same ρ h w w') (hp : h <+: h') (hs : w.heap.size ≤ w'.heap.size) (b : Same (ρ ++ ρ') h' w' w'') : Same ρ h w w'' :=
  ⟨fun r k l hk hl => (b.1 r k l (prefix_row hp hk) (getElem?_app ρ' hl)).trans (a.1 r k l hk hl), fun ⟨x, hx⟩ i hi => (b.2 (by obtain ⟨t, rfl⟩ := hp; exact ⟨x, memRow_app t hx⟩) i (Nat.lt_of_lt_of_le hi hs)).trans (a.2 ⟨x, hx⟩ i hi)⟩

theorem evAny_sound {B : Gd} {C : Call} {g : Bool} (hC : COK P g C) {ops : Array Oper} (hgr : g = true → ∀ (i : Nat) (o : Oper), ops[i]? = some o → growing o.op = true) (hsel : Region.noSelect ops = true)
    {Q : Exit → Act → World → Prop} (hQ : ∀ c a w, ¬ Q (.panic c) a w) : ∀ (fuel : Nat) (listed : Array Bool) {ρ : List Loc} {st : St} {hs : List Hint} {K : St → List Hint → Prop} {a : Act} {w : World},
    evAny C P ops g fuel listed st hs K → HpR B ρ st.h w → TmpsR ρ st.t a → (∀ a' w', LeftS ρ B (if g then bl w.heap.size else B) w st.h g a.defers K a' w' → Q .normal a' w') →
    wpAnyH P .any ops Q (fun w' => g = true → Same ρ st.h w w') fuel listed a w
  | 0, listed, ρ, st, hs, K, a, w, h, hH, hT, hn => by
    unfold evAny at h
    split at h
    · rename_i hr
      exact ⟨hr, hn _ _ ⟨[], st, hs, h, by simpa using hT, by simpa using hH, rfl, Bel.refl _ _, fun _ => List.prefix_refl _⟩⟩
    · exact h.elim
  | fuel + 1, listed, ρ, st, hs, K, a, w, h, hH, hT, hn => by
    unfold evAny at h
    simp only [fN_eq, fO_eq, fA_eq] at h
    split at h
    · rename_i i hfind
      have hmem := List.mem_of_find?_eq_some hfind
      have hpred := List.find?_some hfind
      split at h
      · rename_i o ho
        simp only [ho, Bool.and_eq_true] at hpred
        obtain ⟨hq, hfree⟩ := hpred
        have hquiet : quiet o.op = true := by cases g; exact blind_quiet hq; exact hq
        -- the guard, and then the operation
        unfold evOne at h
        simp only [fSt_eq] at h
        obtain ⟨b, st', hs', hk, hw, hT', hh⟩ := wanted_sound h hT
        have hH' : HpR B ρ st'.h w := hh ▸ hH
        have key : ∃ v st2 hs2, YieldsIf P ops (fun w' => g = true → Same ρ st.h w w') o v a ∧ evAny C P ops g fuel (listed.setIfInBounds i true) st2 hs2 K ∧ st2.h = st.h ∧ TmpsR ρ st2.t (a.put o.dst v) := by
          cases b with
          | true =>
            obtain ⟨x, hs2, u, hK, hx, hr⟩ := qOp_sound (evOp_quiet hquiet hk) hH' hT'
            refine ⟨u, _, hs2, .inl ⟨hw, fun w' hS => hr w' ?_⟩, hK, by rw [St.put_h, hh], hT'.putSt o.dst hx⟩
            cases g with
            | false => exact .inl hq
            | true => right; rw [hh]; exact hS rfl
          | false => exact ⟨undef, _, _, .inr ⟨hw, rfl⟩, hk, by rw [St.put_h, hh], hT'.putSt o.dst (.lit _)⟩
        obtain ⟨v, st2, hs2, hy, hev, hh2, hT2⟩ := key
        refine wpAnyH_take ho hsel hfree (by simpa using hmem) (fun c a w h => absurd h (hQ c _ _)) hy (fun _ => Same.refl _ _ _) ?_
        have := evAny_sound hC hgr hsel hQ fuel (listed.setIfInBounds i true) hev (hh2 ▸ hH) hT2 (fun a' w' hl => hn a' w' (by rw [put_defers] at hl; rw [hh2] at hl; exact hl))
        rw [hh2] at this
        exact this
      · exact h.elim
    · split at h
      · rename_i hr
        exact wpAnyH_done hr (hn _ _ ⟨[], st, hs, h, by simpa using hT, by simpa using hH, rfl, Bel.refl _ _, fun _ => List.prefix_refl _⟩) _
      · rename_i rs hne
        refine wpAnyH_all rfl (fun h0 => hne h0) fun i hi => ?_
        have hi' := allOf_mem h i hi
        split at hi'
        · rename_i o ho
          refine evOne_sound ho hC (fun hg => hgr hg i o ho) hi' hH hT fun a' w' hl => ?_
          obtain ⟨ρ', st', hs', hk, hT', hH', hd, hb, hp⟩ := hl
          have hsame : g = true → Same ρ st.h w w' := by
            intro hg
            subst hg
            exact ⟨fun r k l hkr hl' => hb.block _ (hH.blk r k l hkr hl').lt, fun _ b hlt => hb.block b hlt⟩
          refine ⟨hsame, ?_⟩
          have ih := evAny_sound hC hgr hsel hQ fuel (listed.setIfInBounds i true) hk hH' hT' (fun a'' w'' hl2 => hn a'' w'' (by
            rw [hd] at hl2
            have hle : Gd.le (if g then bl w.heap.size else B) (if g then bl w'.heap.size else B) := by cases g; exact .refl _; exact bl_mono hb.size
            obtain ⟨ρ2, st2, hs2, k2, t2, h2, d2, b2, p2⟩ := hl2
            exact LeftS.trans (h' := st'.h) ⟨ρ2, st2, hs2, k2, t2, h2, d2, b2.mono hle, p2⟩ hb hp))
          exact wpAnyH_mono (fun w'' hS hg => (hsame hg).trans (hp hg) hb.size (hS hg)) fuel _ a' w' ih
        · exact hi'.elim

/-- The rows are as they were, as long as nothing that writes has come up. -/
def SW (c : Option (List FuncId)) (ops : Array Oper) (ρ : List Loc) (h : Hp) (w : World) : Array Bool → World → Prop := fun L w' => (∀ n ∈ writers c ops, L.getD n false = false) → Same ρ h w w'

theorem mem_writers {c : Option (List FuncId)} {ops : Array Oper} {n : Nat} {o : Oper} (ho : ops[n]? = some o) : n ∈ writers c ops ↔ steady c o.op = false := by
  have hlt : n < ops.size := (Array.getElem?_eq_some_iff.1 ho).1
  obtain ⟨_, rfl⟩ := Array.getElem?_eq_some_iff.1 ho
  unfold writers
  rw [List.mem_filter, List.mem_range]
  simp [hlt]

theorem quiet_growing {o : Op} (h : quiet o = true) : growing o = true := by
  unfold growing
  split <;> first | rfl | simp [quiet] at h

theorem quiet_steady {c : Option (List FuncId)} {o : Op} (h : quiet o = true) : steady c o = true := by
  have hg := quiet_growing h
  unfold steady
  split
  · exact hg
  · split
    · exact hg
    · cases h
    · rename_i hne _
      unfold quiet at h
      split at h <;> simp_all
    · exact hg

theorem steady_growing {c : Option (List FuncId)} {o : Op} (h : steady c o = true) : growing o = true := by
  unfold steady at h
  split at h
  · exact h
  · split at h
    · exact h
    · rfl
    · cases h
    · exact h

theorem evAnyW_sound {B : Gd} {C : Call} (hC : COK P false C) {ops : Array Oper} {cw : Option (List FuncId)} (hsel : Region.noSelect ops = true) {F : List Nat}
    (hF : ∀ i o, F.contains i = true → ops[i]? = some o → quiet o.op = true ∧ ∀ n ∈ writers cw ops, i ∈ reach .any ops ops.size n)
    {Q : Exit → Act → World → Prop} (hQ : ∀ c a w, ¬ Q (.panic c) a w) : ∀ (fuel : Nat) (listed : Array Bool) {ρ : List Loc} {st : St} {hs : List Hint} {K : St → List Hint → Prop} {a : Act} {w : World},
    Closed .any ops listed → evAnyW C P ops cw F fuel listed st hs K → HpR B ρ st.h w → TmpsR ρ st.t a → (∀ a' w', LeftS ρ B B w st.h false a.defers K a' w' → Q .normal a' w') →
    wpAnyL P .any ops Q (SW cw ops ρ st.h w) fuel listed a w
  | 0, listed, ρ, st, hs, K, a, w, _, h, hH, hT, hn => by
    unfold evAnyW at h
    split at h
    · rename_i hr
      exact ⟨hr, hn _ _ ⟨[], st, hs, h, by simpa using hT, by simpa using hH, rfl, Bel.refl _ _, by simp⟩⟩
    · exact h.elim
  | fuel + 1, listed, ρ, st, hs, K, a, w, hcl, h, hH, hT, hn => by
    unfold evAnyW at h
    simp only [fN_eq, fO_eq, fA_eq] at h
    split at h
    · rename_i i hfind
      have hmem := List.mem_of_find?_eq_some hfind
      have hpred := List.find?_some hfind
      simp only [Bool.and_eq_true] at hpred
      obtain ⟨hFi, hfree⟩ := hpred
      split at h
      · rename_i o ho
        have hFb : blind o.op = true ∨ F.contains i = true := by
          rw [Bool.or_eq_true] at hFi
          rcases hFi with h | h
          · exact .inr h
          · rw [Bool.and_eq_true, ho] at h; exact .inl h.2
        have hquiet : quiet o.op = true := hFb.elim blind_quiet fun h => (hF i o h ho).1
        have hnw : i ∉ writers cw ops := fun hw => by
          have := (mem_writers ho).1 hw
          rw [quiet_steady hquiet] at this; cases this
        unfold evOne at h
        simp only [fSt_eq] at h
        obtain ⟨b, st', hs', hk, hw, hT', hh⟩ := wanted_sound h hT
        have hH' : HpR B ρ st'.h w := hh ▸ hH
        have key : ∃ v st2 hs2, YieldsIf P ops (fun w' => blind o.op = true ∨ Same ρ st.h w w') o v a ∧ evAnyW C P ops cw F fuel (listed.setIfInBounds i true) st2 hs2 K ∧ st2.h = st.h ∧ TmpsR ρ st2.t (a.put o.dst v) := by
          cases b with
          | true =>
            obtain ⟨x, hs2, u, hK, hx, hr⟩ := qOp_sound (evOp_quiet hquiet hk) hH' hT'
            exact ⟨u, _, hs2, .inl ⟨hw, fun w' hS => hr w' (by rw [hh]; exact hS)⟩, hK, by rw [St.put_h, hh], hT'.putSt o.dst hx⟩
          | false => exact ⟨undef, _, _, .inr ⟨hw, rfl⟩, hk, by rw [St.put_h, hh], hT'.putSt o.dst (.lit _)⟩
        obtain ⟨v, st2, hs2, hy, hev, hh2, hT2⟩ := key
        refine wpAnyL_first (fun w' => blind o.op = true ∨ Same ρ st.h w w') ho (Region.noSelect_spec hsel) (fun c a w h => absurd h (hQ c _ _)) ?_ ?_ ?_ fuel listed a w hcl (Region.free_spec ho hfree) (by simpa using hmem) hy (fun _ => Same.refl _ _ _) ?_
        · intro L w' hL hi0 hS
          refine hFb.imp id fun hFi => ?_
          obtain ⟨_, hreach⟩ := hF i o hFi ho
          refine hS fun n hn => ?_
          cases hx : L.getD n false with
          | false => rfl
          | true =>
            have := reach_listed hL _ n hx i (hreach n hn)
            rcases Nat.lt_or_ge i L.size with h' | h'
            · simp [h'] at hi0 this; rw [hi0] at this; cases this
            · simp [Array.getElem?_eq_none h'] at this
        · intro L w' hS hL
          exact hS fun n hn => by
            have := hL n hn
            rwa [getD_set_ne false (by rintro rfl; exact hnw hn)] at this
        · intro L w' hS hL
          exact hS fun n hn => by
            rw [getD_set_ne false (by rintro rfl; exact hnw hn)]; exact hL n hn
        · have := evAnyW_sound hC hsel hF hQ fuel (listed.setIfInBounds i true) (hcl.step (by simpa using hmem)) hev (hh2 ▸ hH) hT2 (fun a' w' hl => hn a' w' (by rw [put_defers] at hl; rw [hh2] at hl; exact hl))
          rw [hh2] at this
          exact this
      · exact h.elim
    · split at h
      · rename_i hr
        exact ⟨fun _ => hn _ _ ⟨[], st, hs, h, by simpa using hT, by simpa using hH, rfl, Bel.refl _ _, by simp⟩, fun i hi => by rw [hr] at hi; cases hi⟩
      · rename_i rs hne
        refine ⟨fun h0 => absurd h0 hne, fun i hi => ?_⟩
        have hi' := allOf_mem h i hi
        have hcl' := hcl.step hi
        have hun := (mem_ready.1 hi).1
        split at hi'
        · rename_i o ho
          split at hi'
          · rename_i hgr
            refine evOne_sound ho (frozenC_ok hC) (fun _ => steady_growing hgr) hi' hH hT fun a' w' hl => ?_
            obtain ⟨ρ', st', hs', hk, hT', hH', hd, hb, hp⟩ := hl
            have hb : Bel (bl w.heap.size) w w' := by simpa using hb
            have hsame : Same ρ st.h w w' := ⟨fun r k l hkr hl' => hb.block _ (hH.blk r k l hkr hl').lt, fun _ b hlt => hb.block b hlt⟩
            refine ⟨fun _ => hsame, ?_⟩
            have ih := evAnyW_sound hC hsel hF hQ fuel (listed.setIfInBounds i true) hcl' hk hH' hT' (fun a'' w'' hl2 => hn a'' w'' (by
              rw [hd] at hl2
              exact LeftS.trans (h' := st'.h) hl2 (hb.mono hH.base) (by simp)))
            exact wpAnyL_mono fuel _ a' w' (fun L w'' _ hS hun' => hsame.trans (hp rfl) hb.size (hS hun')) ih
          · rename_i hgr
            have hwi : i ∈ writers cw ops := (mem_writers ho).2 (by simpa using hgr)
            have hlst : (listed.setIfInBounds i true).getD i false = true := by
              rcases Nat.lt_or_ge i listed.size with h' | h'
              · simp [h']
              · simp [Array.getElem?_eq_none h'] at hun
            obtain ⟨ρ0, st0, hs0, hi', hH0, hT0⟩ := ghostT_sound hi' hH hT
            refine evOne_sound ho hC (by simp) hi' hH0 hT0 fun a' w' hl => ?_
            obtain ⟨ρ', st', hs', hk, hT', hH', hd, hb, hp⟩ := hl
            obtain ⟨ρ2, st2, hs2, hk, hH', hT'⟩ := ghostT_sound hk hH' hT'
            refine ⟨fun hun' => by (rw [hun' i hwi] at hlst; cases hlst), ?_⟩
            have ih := evAnyW_sound hC hsel hF hQ fuel (listed.setIfInBounds i true) hcl' hk hH' hT' (fun a'' w'' hl2 => hn a'' w'' (by
              rw [hd, List.append_assoc, List.append_assoc] at hl2
              exact LeftS.trans (h' := st2.h) hl2 (by simpa using hb) (by simp)))
            exact wpAnyL_mono fuel _ a' w' (fun L w'' hL _ hun' => by
              have := hL i hlst
              rw [hun' i hwi] at this; cases this) ih
        · exact hi'.elim

/-- One row alone. -/
def only (h : Hp) (r : Nat) : Hp := h.mapIdx fun i x => if i = r then x else none

theorem only_get {h : Hp} {r r' : Nat} {k : Blk} (hk : (only h r)[r']? = some (some k)) : r' = r ∧ h[r']? = some (some k) := by
  unfold only at hk
  rw [List.getElem?_mapIdx] at hk
  cases hg : h[r']? with
  | none => rw [hg] at hk; simp at hk
  | some o =>
    rw [hg] at hk
    by_cases e : r' = r
    · subst e
      cases o <;> simp at hk ⊢
      exact hk
    · simp [e] at hk

theorem only_row {h : Hp} {r r' : Nat} {k : Blk} (hk : (only h r).row r' = some k) : r' = r ∧ h.row r = some k := by
  obtain ⟨h1, h2⟩ := get_row.1 hk
  obtain ⟨rfl, h3⟩ := only_get h1
  exact ⟨rfl, get_row.2 ⟨h3, h2⟩⟩

theorem row_only {h : Hp} {r : Nat} {k : Blk} (hk : h.row r = some k) : (only h r).row r = some k := by
  obtain ⟨h1, h2⟩ := get_row.1 hk
  refine get_row.2 ⟨?_, h2⟩
  unfold only
  rw [List.getElem?_mapIdx, h1]
  simp

theorem HpR.only {B : Gd} {ρ : List Loc} {h : Hp} {w : World} (hH : HpR B ρ h w) (r : Nat) : HpR B ρ (Sx.only h r) w :=
  ⟨by unfold Sx.only; rw [List.length_mapIdx]; exact hH.len, hH.base, fun r' k l hk hl => by
    obtain ⟨rfl, hk⟩ := only_row hk
    exact hH.blk _ k l hk hl, fun r1 r2 k1 k2 l1 l2 h1 h2 _ hne _ _ => absurd ((only_row h1).1.trans (only_row h2).1.symm) hne, hH.glob,
    hH.objs.elim fun o hO => ⟨o, hO.same (fun r' k hk => get_obj.2 ⟨(only_get (get_obj.1 hk).1).2, (get_obj.1 hk).2⟩) fun r' k hk => ⟨k, by
      obtain ⟨rfl, hk⟩ := only_row hk
      exact hk, id⟩⟩⟩

theorem qOp_pin {B : Gd} {ρ : List Loc} {h0 : Hp} {st : St} {o : Oper} {hs : List Hint} {K : AV → List Hint → Prop} {a : Act} {w0 : World} (h : qOp P st o.op hs K) (hp : (blind o.op || pin h0 st o.op) = true) (hH : HpR B ρ st.h w0) (hT : TmpsR ρ st.t a)
    (hN : ∀ r k l, h0.row r = some k → At ρ r l → B l.b) :
    ∃ x hs' u, K x hs' ∧ AVR ρ x u ∧ ∀ w, (∀ b, B b → w.heap[b]? = w0.heap[b]?) → (execOp a.eval o).run P w = .ok (.value u) w := by
  cases hb : blind o.op with
  | true =>
    obtain ⟨x, hs', u, hk, hx, hr⟩ := qOp_sound h hH hT
    exact ⟨x, hs', u, hk, hx, fun w _ => hr w (.inl hb)⟩
  | false =>
    rw [hb, Bool.false_or] at hp
    unfold pin at hp
    split at hp
    · rename_i t x ho
      split at hp
      · rename_i r i q s hx
        split at hp
        · rename_i k0 hk0
          have h' : qOp P ⟨st.t, only st.h r⟩ o.op hs K := by
            rw [ho] at h ⊢
            have h : load P st.h t (st.op x) hs K := h
            show load P (only st.h r) t (St.op ⟨st.t, only st.h r⟩ x) hs K
            have e : St.op ⟨st.t, only st.h r⟩ x = st.op x := by cases x <;> rfl
            rw [e]
            rw [hx] at h ⊢
            unfold load at h ⊢
            dsimp only at h ⊢
            cases hk : st.h.row r with
            | none => rw [hk] at h; exact h.elim
            | some k => rw [row_only hk]; rw [hk] at h; exact h
          obtain ⟨kr, hkr⟩ : ∃ k, st.h.row r = some k := by
            rw [ho] at h
            have h : load P st.h t (st.op x) hs K := h
            rw [hx] at h
            unfold load at h
            dsimp only at h
            cases hk : st.h.row r with
            | none => rw [hk] at h; exact h.elim
            | some k => exact ⟨k, rfl⟩
          obtain ⟨x, hs', u, hk, hx, hr⟩ := qOp_sound (st := ⟨st.t, only st.h r⟩) h' (hH.only r) hT
          refine ⟨x, hs', u, hk, hx, fun w hw => hr w (.inr ⟨fun r' k l hk' hl => ?_, fun ⟨⟨r', k'⟩, hm⟩ => ?_⟩)⟩
          · obtain ⟨rfl, _⟩ := only_row hk'
            exact hw _ (hN _ k0 l hk0 hl)
          · obtain ⟨_, m1, m2, _⟩ := memRow_obj hm
            obtain ⟨rfl, m3⟩ := only_get m1
            obtain ⟨g1, g2⟩ := get_row.1 hkr
            rw [g1] at m3
            cases m3
            exact absurd m2 g2
        · cases hp
      · cases hp
    · cases hp

theorem plain_vals : ∀ {xs : List AV}, xs.all AV.plain1 = true → ∃ vs, AVRs [] xs vs
  | [], _ => ⟨[], .nil⟩
  | x :: xs, h => by
    rw [List.all_cons, Bool.and_eq_true] at h
    obtain ⟨vs, hv⟩ := plain_vals h.2
    cases x <;> first | (simp [AV.plain1] at h; done) | (obtain ⟨g, rfl, rfl, rfl⟩ := plain1_func h.1; exact ⟨_, .cons (.func .nil .nil) hv⟩) | exact ⟨_, .cons (.lit _) hv⟩ | exact ⟨_, .cons (.int _ _) hv⟩ | exact ⟨_, .cons (.w64 _) hv⟩ | exact ⟨_, .cons (.bool _) hv⟩ | exact ⟨_, .cons (.val _) hv⟩

theorem plain_val {x : AV} (h : x.plain = true) : ∃ v, AVR [] x v := by
  cases x with
  | agg cs => exact let ⟨vs, hv⟩ := plain_vals h; ⟨_, .agg hv⟩
  | lit v => exact ⟨_, .lit _⟩
  | int k n => exact ⟨_, .int _ _⟩
  | w64 x => exact ⟨_, .w64 _⟩
  | bool b => exact ⟨_, .bool _⟩
  | val v => exact ⟨_, .val _⟩
  | func fn a b => obtain ⟨g, rfl, rfl, rfl⟩ := plain1_func h; exact ⟨_, .func .nil .nil⟩
  | _ => cases h

theorem evPure_sound {B : Gd} {C : Call} {g : Bool} (hC : COK P g C) {ρ : List Loc} {ops : Array Oper} {o : Oper} {st : St} {hs : List Hint} {K : AV → List Hint → Prop} {a : Act} {fs : List FuncId} (hp : pureC fs st o.op = true) (h : evPure C st o.op hs K) (hT : TmpsR ρ st.t a) (hw : Region.wanted o (yielded ops a.tmps) = true) :
    ∃ x hs' u, K x hs' ∧ AVR ρ x u ∧ PureOp P ops (fun w w' => Bel (bl w.heap.size) w w') (fun w => GlobOK B w ∧ Gd.le B (bl w.heap.size)) o u a := by
  obtain ⟨dst, op, type, pos, after, guard⟩ := o
  dsimp only at hp h
  unfold evPure at h
  split at h
  · rename_i gf args tys v hs'
    split at h
    · rename_i hv
      obtain ⟨hc, hK⟩ := h
      unfold pureC at hp
      dsimp only at hp
      rw [Bool.and_eq_true, List.all_eq_true] at hp
      have hargs : AVRs [] (args.toList.map st.op) (args.toList.map a.eval) := AVRs.plain (fun x hx => by
        obtain ⟨y, hy, rfl⟩ := List.mem_map.1 hx
        exact hp.2 y hy) (hT.ops args.toList)
      have hex : ∀ w, (execOp a.eval ⟨dst, Op.call { callee := .value (.func gf), args, argTypes := tys }, type, pos, after, guard⟩).run P w = (callFunc gf (args.toList.map a.eval).toArray).run P w := by
        intro w
        cases args
        simp [execOp, resolve, Act.eval, Deferred.ofValue, invoke]
      have call : ∀ w, GlobOK B w ∧ Gd.le B (bl w.heap.size) → CallsX P gf (args.toList.map a.eval).toArray w fun u w' => AVR [] v u ∧ Bel (bl w.heap.size) w w' := by
        rintro w ⟨hg, hb⟩
        have hH : HpR (bl w.heap.size) [] [] w := ⟨rfl, .refl _, fun r k l h => by simp [Hp.row] at h, fun r r' k k' l l' h => by simp [Hp.row] at h, hg.mono hb, .none fun r k h => by simp [Hp.obj] at h⟩
        have conv : ∀ u w', (∃ (ρ' : List Loc) (x : AV) (h' : Hp) (_hs' : List Hint), (h' = [] ∧ x = v) ∧ AVR ([] ++ ρ') x u ∧ HpR (bl w.heap.size) ([] ++ ρ') h' w' ∧ Bel (if g then bl w.heap.size else bl w.heap.size) w w' ∧ (g = true → ([] : Hp) <+: h')) → AVR [] v u ∧ Bel (bl w.heap.size) w w' := by
          rintro u w' ⟨ρ', x, h', _, ⟨rfl, rfl⟩, hr, _, hb, _⟩
          exact ⟨AVR.plain hv hr, by cases g <;> simpa using hb⟩
        rcases hC gf _ _ _ _ hc (bl w.heap.size) [] w _ hH hargs with ⟨h1, h2⟩ | ⟨u, w', h1, h2⟩
        · exact .inl ⟨h1, h2.mono fun e w' he => by cases e with
            | returned u => exact conv u w' he
            | panicked c => exact he
            | outgrown => exact he⟩
        · exact .inr ⟨u, w', h1, conv u w' h2⟩
      obtain ⟨u, hu⟩ := plain_val hv
      refine ⟨v, hs', u, hK, hu.of_nil, .inl ⟨hw, fun w hS => ?_⟩⟩
      rw [hex]
      rcases call w hS with ⟨h1, h2⟩ | ⟨u', w', h1, h2⟩
      · refine .inr ⟨_, _, h1, h2.mono fun e w' he => ?_⟩
        cases e with
        | returned u' => exact ⟨by rw [AVR.det hv hu he.1], he.2⟩
        | panicked c => exact he.elim
        | outgrown => exact he.elim
      · rw [AVR.det hv hu h2.1]
        exact .inl ⟨w', h1, h2.2⟩
    · exact h.elim
  · exact h.elim

theorem evAnyZ_sound {B : Gd} {C : Call} (hC : COK P false C) {ops : Array Oper} {fs : List FuncId} {h0 : Hp} (hsel : Region.noSelect ops = true) {w0 : World}
    {Q : Exit → Act → World → Prop} (hQ : ∀ c a w, ¬ Q (.panic c) a w) : ∀ (fuel : Nat) (listed : Array Bool) {ρ : List Loc} {st : St} {hs : List Hint} {K : St → List Hint → Prop} {a : Act} {w : World},
    evAnyZ C P ops fs h0 fuel listed st hs K → HpR B ρ st.h w → TmpsR ρ st.t a → h0.length ≤ ρ.length → (∀ r k l, h0.row r = some k → At ρ r l → B l.b) → (∀ b, B b → w.heap[b]? = w0.heap[b]?) → (∀ a' w', LeftS ρ B B w st.h false a.defers K a' w' → Q .normal a' w') →
    wpAnyG P .any ops Q (fun w w' => Bel (bl w.heap.size) w w') (fun w' => (GlobOK B w' ∧ Gd.le B (bl w'.heap.size)) ∧ ∀ b, B b → w'.heap[b]? = w0.heap[b]?) fuel listed a w
  | 0, listed, ρ, st, hs, K, a, w, h, hH, hT, _, _, _, hn => by
    unfold evAnyZ at h
    split at h
    · rename_i hr
      exact ⟨hr, fun w1 hg => hn _ _ ⟨[], st, hs, h, by simpa using hT, by simpa using hH.below hg, rfl, hg.mono hH.base, by simp⟩⟩
    · exact h.elim
  | fuel + 1, listed, ρ, st, hs, K, a, w, h, hH, hT, hl0, hN, hB0, hn => by
    unfold evAnyZ at h
    simp only [fN_eq, fO_eq, fA_eq] at h
    have hGr : ∀ w : World, Bel (bl w.heap.size) w w := fun w => Bel.refl _ _
    have hGt : ∀ w w' w'' : World, Bel (bl w.heap.size) w w' → Bel (bl w'.heap.size) w' w'' → Bel (bl w.heap.size) w w'' := fun w w' w'' h1 h2 => h1.trans (h2.mono (bl_mono h1.size))
    have hSG : ∀ w w' : World, ((GlobOK B w ∧ Gd.le B (bl w.heap.size)) ∧ ∀ b, B b → w.heap[b]? = w0.heap[b]?) → Bel (bl w.heap.size) w w' → ((GlobOK B w' ∧ Gd.le B (bl w'.heap.size)) ∧ ∀ b, B b → w'.heap[b]? = w0.heap[b]?) := fun w w' h1 h2 =>
      ⟨⟨h1.1.1.below (h2.mono h1.1.2), h1.1.2.trans (bl_mono h2.size)⟩, fun b hb => (h2.block b (h1.1.2 b hb)).trans (h1.2 b hb)⟩
    split at h
    · rename_i i hfind
      have hmem := List.mem_of_find?_eq_some hfind
      have hpred := List.find?_some hfind
      split at h
      · rename_i o ho
        simp only [ho, Bool.and_eq_true] at hpred
        obtain ⟨_, hfree⟩ := hpred
        unfold evOneZ at h
        simp only [fSt_eq] at h
        obtain ⟨b, st', hs', hk, hw, hT', hh⟩ := wanted_sound h hT
        have hH' : HpR B ρ st'.h w := hh ▸ hH
        have key : ∃ v st2 hs2, PureOp P ops (fun w w' => Bel (bl w.heap.size) w w') (fun w' => (GlobOK B w' ∧ Gd.le B (bl w'.heap.size)) ∧ ∀ b, B b → w'.heap[b]? = w0.heap[b]?) o v a ∧ evAnyZ C P ops fs h0 fuel (listed.setIfInBounds i true) st2 hs2 K ∧ st2.h = st.h ∧ TmpsR ρ st2.t (a.put o.dst v) := by
          cases b with
          | true =>
            dsimp only at hk
            split at hk
            · rename_i hp
              obtain ⟨x, hs2, u, hK, hx, hr⟩ := evPure_sound (B := B) hC hp hk hT' hw
              exact ⟨u, _, hs2, hr.imp (fun ⟨h1, h2⟩ => ⟨h1, fun w hS => h2 w hS.1⟩) id, hK, by rw [St.put_h, hh], hT'.putSt o.dst hx⟩
            · split at hk
              · rename_i hp
                rw [Bool.and_eq_true] at hp
                obtain ⟨x, hs2, u, hK, hx, hr⟩ := qOp_pin hk hp.1 hH' hT' hN
                exact ⟨u, _, hs2, .inl ⟨hw, fun w' hS => .inl ⟨w', hr w' (fun b hb => (hS.2 b hb).trans (hB0 b hb).symm), Bel.refl _ _⟩⟩, hK, by rw [St.put_h, hh], hT'.putSt o.dst hx⟩
              · exact hk.elim
          | false => exact ⟨undef, _, _, .inr ⟨hw, rfl⟩, hk, by rw [St.put_h, hh], hT'.putSt o.dst (.lit _)⟩
        obtain ⟨v, st2, hs2, hy, hev, hh2, hT2⟩ := key
        refine wpAnyG_first hGr hGt hSG ho (Region.noSelect_spec hsel) (fun c a w h => absurd h (hQ c _ _)) fuel listed a w (Region.free_spec ho hfree) (by simpa using hmem) hy ⟨⟨hH.glob, hH.base⟩, hB0⟩ ?_
        exact evAnyZ_sound hC hsel hQ fuel (listed.setIfInBounds i true) hev (hh2 ▸ hH) hT2 hl0 hN hB0 (fun a' w' hl => hn a' w' (by rw [put_defers] at hl; rw [hh2] at hl; exact hl))
      · exact h.elim
    · intro w1 hg
      have hgB : Bel B w w1 := hg.mono hH.base
      have hH1 := hH.below hg
      split at h
      · rename_i hr
        exact ⟨fun _ => hn _ _ ⟨[], st, hs, h, by simpa using hT, by simpa using hH1, rfl, hgB, by simp⟩, fun i hi => by rw [hr] at hi; cases hi⟩
      · rename_i rs hne
        refine ⟨fun h0 => absurd h0 hne, fun i hi => ?_⟩
        have hi' := allOf_mem h i hi
        split at hi'
        · rename_i o ho
          refine evOne_sound ho hC (by simp) hi' hH1 hT fun a' w' hl => ?_
          obtain ⟨ρ', st', hs', hk, hT', hH', hd, hb, hp⟩ := hl
          have hb : Bel B w1 w' := by simpa using hb
          have hB1 : ∀ b, B b → w'.heap[b]? = w0.heap[b]? := fun b hb' => (hb.block b hb').trans ((hgB.block b hb').trans (hB0 b hb'))
          refine ⟨⟨⟨hH'.glob, hH'.base⟩, hB1⟩, ?_⟩
          have hN' : ∀ r k l, h0.row r = some k → At (ρ ++ ρ') r l → B l.b := by
            rintro r k l hk ⟨hl', hp'⟩
            have hr : r < h0.length := row_lt hk
            rw [List.getElem?_append_left (by omega)] at hl'
            exact hN r k l hk ⟨hl', hp'⟩
          exact evAnyZ_sound hC hsel hQ fuel (listed.setIfInBounds i true) hk hH' hT' (by rw [List.length_append]; omega) hN' hB1 (fun a'' w'' hl2 => hn a'' w'' (by
            rw [hd] at hl2
            exact LeftS.trans (h' := st'.h) hl2 (hgB.trans hb) (by simp)))
        · exact hi'.elim

theorem firsts_spec {c : Option (List FuncId)} {ops : Array Oper} : ∀ i o, (firsts c ops).contains i = true → ops[i]? = some o → quiet o.op = true ∧ ∀ n ∈ writers c ops, i ∈ reach .any ops ops.size n := by
  intro i o hi ho
  have hm : i ∈ firsts c ops := by simpa using hi
  unfold firsts at hm
  obtain ⟨_, h⟩ := List.mem_filter.1 hm
  simp only [ho, Bool.and_eq_true, List.all_eq_true] at h
  exact ⟨h.1, fun n hn => by simpa using h.2 n hn⟩

theorem evRegion_sound {B : Gd} {C : Call} (hC : COK P false C) (hm : P.follows .mixedOrders = true) {ro : Option Nat} {n : Nat} {id : Nat} {ops : Array Oper} {draw : Bool} (hdf : ro = none ∨ (ops.all fun o => !defers o.op) = true) {ρ : List Loc} {st : St} {hs : List Hint} {K : St → List Hint → Prop} {a : Act} {w : World}
    (h : evRegion C P ops draw st hs K) (hH : HpR B ρ st.h w) (hT : TmpsR ρ st.t a) {Q : Exit → Act → World → Prop} (hQ : ∀ c a w, ¬ Q (.panic c) a w) (hO : ∀ a w, ¬ Q .outgrown a w) (hn : ∀ a' w', LeftS ρ B B w st.h false a.defers K a' w' → Q .normal a' w') :
    (Code.region id ops draw).wpIn (rnd ro) n P Q a w := by
  have hLO : ¬ LetsOut Q := fun ⟨_, _, h⟩ => hO _ _ h
  unfold evRegion at h
  split at h
  · have := evOps_sound hC ops.toList 0 (by simp) h hH hT hn
    refine wpIn_region (wpOps_rnd hdf hLO _ _ _ ?_)
    rw [List.range_eq_range']
    simpa using this
  · have hd : Bel (bl w.heap.size) w w.drew := (Bel.refl _ _).drew
    have hH' := hH.below hd
    have hBd : Bel B w w.drew := hd.mono hH.base
    split at h
    · rename_i hsel
      split at h
      · have := evAnyW_sound hC hsel firsts_spec hQ _ _ (closed_init _) h hH' hT (fun a' w' hl => hn a' w' (by
          obtain ⟨ρ2, st2, hs2, k2, t2, h2, d2, b2, _⟩ := hl
          exact ⟨ρ2, st2, hs2, k2, t2, h2, d2, hBd.trans (by simpa using b2), by simp⟩))
        exact wpIn_region_any hm (wpAny_rnd hdf hLO _ _ _ _ (wpAny_of_L _ _ _ _ this))
      · have := evAnyZ_sound (B := w.drew.heap.size) (w0 := w.drew) hC hsel hQ _ _ h hH'.freeze hT (Nat.le_of_eq hH'.len.symm) (fun r k l hk hl => (hH'.blk r k l hk hl).lt) (fun _ _ => rfl) (fun a' w' hl => hn a' w' (by
          obtain ⟨ρ2, st2, hs2, k2, t2, h2, d2, b2, _⟩ := hl
          exact ⟨ρ2, _, hs2, k2, t2, thaw_ok hH' h2 b2, d2, hBd.trans (b2.mono hH'.base), by simp⟩))
        exact wpIn_region_any hm (wpAny_rnd hdf hLO _ _ _ _ (wpAny_of_G (fun _ => Bel.refl _ _) _ _ _ _ this))
      · split at h
        · rename_i hgr
          have := evAny_sound (frozenC_ok hC) (fun _ i o ho => by
            have := List.all_eq_true.1 hgr o (by
              have : ops.toList[i]? = some o := by simpa using ho
              exact List.mem_of_getElem? this)
            exact this) hsel hQ _ _ h hH' hT (fun a' w' hl => hn a' w' (by
              obtain ⟨ρ2, st2, hs2, k2, t2, h2, d2, b2, _⟩ := hl
              exact ⟨ρ2, st2, hs2, k2, t2, h2, d2, hBd.trans (b2.mono (by simpa using hH'.base)), by simp⟩))
          exact wpIn_region_any hm (wpAny_rnd hdf hLO _ _ _ _ (wpAny_of_held _ _ _ _ this))
        · split at h
          · have := evAny_sound hC (by simp) hsel hQ _ _ h hH' hT (fun a' w' hl => hn a' w' (by
              obtain ⟨ρ2, st2, hs2, k2, t2, h2, d2, b2, _⟩ := hl
              exact ⟨ρ2, st2, hs2, k2, t2, h2, d2, hBd.trans (by simpa using b2), by simp⟩))
            exact wpIn_region_any hm (wpAny_rnd hdf hLO _ _ _ _ (wpAny_of_held _ _ _ _ this))
          · have := evAnyZ_sound (B := w.drew.heap.size) (w0 := w.drew) hC hsel hQ _ _ h hH'.freeze hT (Nat.le_of_eq hH'.len.symm) (fun r k l hk hl => (hH'.blk r k l hk hl).lt) (fun _ _ => rfl) (fun a' w' hl => hn a' w' (by
              obtain ⟨ρ2, st2, hs2, k2, t2, h2, d2, b2, _⟩ := hl
              exact ⟨ρ2, _, hs2, k2, t2, thaw_ok hH' h2 b2, d2, hBd.trans (b2.mono hH'.base), by simp⟩))
            exact wpIn_region_any hm (wpAny_rnd hdf hLO _ _ _ _ (wpAny_of_G (fun _ => Bel.refl _ _) _ _ _ _ this))
          · have := evAnyW_sound hC hsel firsts_spec hQ _ _ (closed_init _) h hH' hT (fun a' w' hl => hn a' w' (by
              obtain ⟨ρ2, st2, hs2, k2, t2, h2, d2, b2, _⟩ := hl
              exact ⟨ρ2, st2, hs2, k2, t2, h2, d2, hBd.trans (by simpa using b2), by simp⟩))
            exact wpIn_region_any hm (wpAny_rnd hdf hLO _ _ _ _ (wpAny_of_L _ _ _ _ this))
    · exact h.elim

end
end Go.Sx
