/-
  The calculus (SxA): whatever only reads gives what Go's operation does.
-/
import Derived.Test.YthfgocpejlhanaaSxD
namespace Go.Sx

section
variable {P : Program}

/-- The rows are as they were. -/
def Same (ρ : List Loc) (h : Hp) (w0 w : World) : Prop := (∀ r k l, h.row r = some k → At ρ r l → w.heap[l.b]? = w0.heap[l.b]?) ∧ ((∃ x, memRow 0 h = some x) → ∀ b, b < w0.heap.size → w.heap[b]? = w0.heap[b]?)

theorem Same.refl (ρ : List Loc) (h : Hp) (w : World) : Same ρ h w w := ⟨fun _ _ _ _ _ => rfl, fun _ _ _ => rfl⟩

theorem memRow_obj : ∀ {h : Hp} {i r : Nat} {k : Blk}, memRow i h = some (r, k) → i ≤ r ∧ h[r - i]? = some (some k) ∧ k.esz = 0 ∧ k.ty = memTy
  | [], i, r, k, hm => by simp [memRow] at hm
  | none :: h, i, r, k, hm => by
    unfold memRow at hm
    obtain ⟨a, b, c⟩ := memRow_obj hm
    refine ⟨by omega, ?_, c⟩
    rw [show r - i = (r - (i + 1)) + 1 by omega, List.getElem?_cons_succ]
    exact b
  | some k0 :: h, i, r, k, hm => by
    unfold memRow at hm
    split at hm
    · rename_i h1 h2
      cases hm
      exact ⟨Nat.le_refl _, by simp, h1, of_decide_eq_true h2⟩
    · obtain ⟨a, b, c⟩ := memRow_obj hm
      refine ⟨by omega, ?_, c⟩
      rw [show r - i = (r - (i + 1)) + 1 by omega, List.getElem?_cons_succ]
      exact b

theorem memRow_app : ∀ {h : Hp} {i : Nat} {x : Nat × Blk} (h' : Hp), memRow i h = some x → memRow i (h ++ h') = some x
  | [], i, x, h', hm => by simp [memRow] at hm
  | none :: h, i, x, h', hm => by
    unfold memRow at hm
    rw [List.cons_append]
    unfold memRow
    exact memRow_app h' hm
  | some k0 :: h, i, x, h', hm => by
    rw [List.cons_append]
    unfold memRow at hm ⊢
    split at hm
    · exact hm
    · exact memRow_app h' hm

theorem sure_some {q : Option Addr} (h : M.sure q = true) : ∃ b o, q = some ⟨b, o, none⟩ := by
  unfold M.sure at h
  split at h
  · exact ⟨_, _, rfl⟩
  · cases h

/-- Raw memory: where it lies. -/
theorem HpR.memory {B : Gd} {ρ : List Loc} {h : Hp} {w : World} (hH : HpR B ρ h w) {r : Nat} {k : Blk} (hm : memRow 0 h = some (r, k)) :
    h.obj r = some k ∧ k.ty = memTy ∧ ∃ l, At ρ r l := by
  obtain ⟨_, a, b, c⟩ := memRow_obj hm
  have ho : h.obj r = some k := by unfold Hp.obj; rw [Nat.sub_zero] at a; rw [a]; simp only [b]
  obtain ⟨o, hO⟩ := hH.objs
  exact ⟨ho, c, hO.here r k ho⟩

theorem ObjR.rawMem (hno : ∀ es m, ¬ rawI memTy es m) (hnr : ∀ es h, ¬ reprO memTy es h) {es : List AV} {b : Nat} {own : List Nat} {w : World} (h : ObjR memTy es b own w) : ∃ m, es = memE m ∧ RawR m b own w := by
  cases h with
  | mk h ρ o hr => exact absurd hr (hnr _ _)
  | raw m hr hR => exact ⟨m, hr.elim (fun e => e.2) fun e => absurd e (hno _ _), hR⟩
  | ext h => exact absurd h ext_mem

theorem mget_memE : ∀ {m : List MB} {b : Nat} {cs : List AV}, M.mget (memE m) b = some cs → ∃ x ∈ m, x.b = b ∧ x.cs = cs
  | [], b, cs, h => by simp [memE, M.mget] at h
  | x :: m, b, cs, h => by
    simp only [memE, List.map_cons, M.mblk, M.mget] at h
    split at h
    · rename_i e
      cases h
      exact ⟨x, List.mem_cons_self, by omega, rfl⟩
    · obtain ⟨y, h1, h2⟩ := mget_memE (m := m) h
      exact ⟨y, List.mem_cons_of_mem _ h1, h2⟩

theorem addr_add (b x n : Nat) : (⟨b, x, none⟩ : Addr).add n = ⟨b, x + n, none⟩ := by
  unfold Addr.add; split
  · rename_i h; subst h; rfl
  · rfl

/-- What is read of raw memory. -/
theorem mread_sound {m : List MB} {b0 : Nat} {own : List Nat} {w0 : World} (hR : RawR m b0 own w0) {q : Option Addr} {t : TypeId} {i : TypeInfo} {ag : Bool} (hi : P.info? t = some i) (hag : isAggT P t = some ag) {x : AV} (h : M.mread (memE m) q ag i.size = some x) :
    ∃ b o, q = some ⟨b, o, none⟩ ∧ b ∈ own ∧ ∃ u, AVR [] x u ∧ ∀ w, w.heap[b]? = w0.heap[b]? → (loadVar t ⟨b, o, none⟩).run P w = .ok u w := by
  unfold M.mread at h
  split at h
  · rename_i b o
    split at h
    · rename_i cs hcs
      obtain ⟨x, hx, rfl, rfl⟩ := mget_memE hcs
      obtain ⟨ho, cur, hc, hv⟩ := hR.is x hx
      refine ⟨_, o, rfl, ho, ?_⟩
      split at h
      · split at h
        · rename_i hle
          cases h
          refine ⟨_, .agg ((hv.drop o).take i.size), fun w hw => ?_⟩
          have hl := run_loadCells_list (P := P) w ⟨x.b, o, none⟩ (((cur.toList.take x.cs.length).drop o).take i.size) fun j v hj => by
            rw [List.getElem?_take] at hj
            split at hj
            · rw [List.getElem?_drop, List.getElem?_take] at hj
              split at hj
              · rw [addr_add]
                simp only [World.cell?, hw, hc]
                simpa using hj
              · cases hj
            · cases hj
          have hlen : (((cur.toList.take x.cs.length).drop o).take i.size).length = i.size := by
            have := hv.length
            simp only [List.length_take, List.length_drop] at this ⊢; omega
          rw [hlen] at hl
          simp [loadVar, run_isAgg hag, sizeOf, run_tinfo hi, hl]
        · cases h
      · obtain ⟨v, hv', hr⟩ := hv.get h
        have hv' : cur.toList[o]? = some v := by
          rw [List.getElem?_take] at hv'
          split at hv'
          · exact hv'
          · cases hv'
        refine ⟨v, hr, fun w hw => ?_⟩
        have : w.cell? ⟨x.b, o, none⟩ = some v := by simp only [World.cell?, hw, hc]; simpa using hv'
        simp [loadVar, run_isAgg hag, this]
    · cases h
  · cases h

theorem ptr_inv {ρ : List Loc} {r i o : Nat} {st : Bool} {v : Value} (h : AVR ρ (.ptr r i o st) v) : ∃ l, At ρ r l ∧ v = .pointer (some ⟨l.b, l.off + i * l.esz + o, none⟩) := by
  cases h with | ptr h => exact ⟨_, h, rfl⟩

theorem slice_inv {ρ : List Loc} {r i len : Nat} {st : Bool} {v : Value} (h : AVR ρ (.slice r i len st) v) :
    ∃ l a c, At ρ r l ∧ len ≤ c ∧ c ≤ l.cap - i ∧ (0 < c → a = ⟨l.b, l.off + i * l.esz, none⟩) ∧ v = .slice (some a) len c := by
  cases h with | slice h h1 h2 h3 => exact ⟨_, _, _, h, h1, h2, h3, rfl⟩

theorem vsl_inv {ρ : List Loc} {r i len : Nat} {v : Value} (h : AVR ρ (.vsl r i len) v) : (len = 0 ∧ v = .slice none 0 0) ∨ ∀ st, AVR ρ (.slice r i len st) v := by
  cases h with
  | vslS h h1 h2 h3 => exact .inr fun _ => .slice h h1 h2 h3
  | vslN h => exact .inl ⟨h, rfl⟩

theorem vsl_of {ρ : List Loc} {r i len : Nat} {st : Bool} {v : Value} (h : AVR ρ (.slice r i len st) v) : AVR ρ (.vsl r i len) v := by
  cases h with | slice h h1 h2 h3 => exact .vslS h h1 h2 h3

theorem agg_inv {ρ : List Loc} {cs : List AV} {v : Value} (h : AVR ρ (.agg cs) v) : ∃ vs, AVRs ρ cs vs ∧ v = .agg vs.toArray := by
  cases h with | agg h => exact ⟨_, h, rfl⟩

theorem run_indexAt_arr {t e : TypeId} {len s : Nat} (ht : P.underlying t = some (.array len e)) (hs : sizeAt P e = some s) (b x : Nat) (k : IntKind) (n : Int) (h0 : 0 ≤ n) (h1 : n < (len : Int)) (w : World) :
    (Instr.indexAt t (.pointer (some ⟨b, x, none⟩)) (.int k n)).run P w = .ok (.pointer (some ⟨b, x + n.toNat * s, none⟩)) w := by
  simp [Instr.indexAt, asIntOf, run_und ht, Instr.sureAddr, h0, h1, run_size hs, addr_add]

theorem run_indexAt_slice {t e : TypeId} {s : Nat} (ht : P.underlying t = some (.slice e)) (hs : sizeAt P e = some s) (b x len cap : Nat) (k : IntKind) (n : Int) (h0 : 0 ≤ n) (h1 : n < (len : Int)) (w : World) :
    (Instr.indexAt t (.slice (some ⟨b, x, none⟩) len cap) (.int k n)).run P w = .ok (.pointer (some ⟨b, x + n.toNat * s, none⟩)) w := by
  simp [Instr.indexAt, asIntOf, run_und ht, h0, h1, run_size hs, addr_add]

theorem run_bound {k : IntKind} {n : Int} {y : Nat} {code : BoundsCode} (h0 : 0 ≤ n) (h1 : n ≤ (y : Int)) (w : World) : (Instr.sliceBound (.int k n) y code).run P w = .ok n.toNat w := by
  simp [Instr.sliceBound, asIntOf, h0, h1]

/-- x[lo:hi], each of them given or not. -/
theorem run_sliceAt {t e : TypeId} {s : Nat} (ht : P.underlying t = some (.slice e)) (hs : sizeAt P e = some s) (a : Option Addr) (len cap : Nat) (hi lo : Option Value) (hn ln : Nat)
    (hhi : (hi = none ∧ hn = len) ∨ ∃ k n, hi = some (.int k n) ∧ 0 ≤ n ∧ n.toNat = hn) (hh : hn ≤ len) (hlc : len ≤ cap)
    (hlo : (lo = none ∧ ln = 0) ∨ ∃ k n, lo = some (.int k n) ∧ 0 ≤ n ∧ n.toNat = ln) (hl : ln ≤ hn) (w : World) :
    (Instr.sliceAt t (.slice a len cap) lo hi none).run P w = .ok (.slice (if cap = ln then a else a.map (·.add (ln * s))) (hn - ln) (cap - ln)) w := by
  rcases hhi with ⟨rfl, rfl⟩ | ⟨kh, h, rfl, h0, rfl⟩ <;> rcases hlo with ⟨rfl, rfl⟩ | ⟨kl, l, rfl, l0, rfl⟩
  · simp [Instr.sliceAt, run_und ht, Instr.slice, Instr.sliceBounds, run_size hs]
  · simp [Instr.sliceAt, run_und ht, Instr.slice, Instr.sliceBounds, run_size hs, run_bound (P := P) l0 (show l ≤ (hn : Int) by omega)]
  · simp [Instr.sliceAt, run_und ht, Instr.slice, Instr.sliceBounds, run_size hs, run_bound (P := P) h0 (show h ≤ (cap : Int) by omega)]
  · simp [Instr.sliceAt, run_und ht, Instr.slice, Instr.sliceBounds, run_size hs, run_bound (P := P) h0 (show h ≤ (cap : Int) by omega), run_bound (P := P) l0 (show l ≤ ((h.toNat : Nat) : Int) by omega)]

/-- x[lo:hi:max], lo given or not. -/
theorem run_sliceAt3 {t e : TypeId} {s : Nat} (ht : P.underlying t = some (.slice e)) (hs : sizeAt P e = some s) (a : Option Addr) (len cap : Nat) (kh km : IntKind) (h m : Int) (lo : Option Value) (ln : Nat)
    (h0 : 0 ≤ h) (hh : h.toNat ≤ m.toNat) (m0 : 0 ≤ m) (hm : m.toNat ≤ cap)
    (hlo : (lo = none ∧ ln = 0) ∨ ∃ k n, lo = some (.int k n) ∧ 0 ≤ n ∧ n.toNat = ln) (hl : ln ≤ h.toNat) (w : World) :
    (Instr.sliceAt t (.slice a len cap) lo (some (.int kh h)) (some (.int km m))).run P w = .ok (.slice (if m.toNat = ln then a else a.map (·.add (ln * s))) (h.toNat - ln) (m.toNat - ln)) w := by
  have e1 := run_bound (P := P) (k := km) (code := .slice3Acap) m0 (show m ≤ (cap : Int) by omega)
  have e2 := run_bound (P := P) (k := kh) (code := .slice3B) h0 (show h ≤ ((m.toNat : Nat) : Int) by omega)
  rcases hlo with ⟨rfl, rfl⟩ | ⟨kl, l, rfl, l0, rfl⟩
  · simp [Instr.sliceAt, run_und ht, Instr.slice, Instr.sliceBounds, run_size hs, e1, e2]
  · simp [Instr.sliceAt, run_und ht, Instr.slice, Instr.sliceBounds, run_size hs, e1, e2, run_bound (P := P) (k := kl) (code := .slice3C) l0 (show l ≤ ((h.toNat : Nat) : Int) by omega)]

/-- s[lo:hi] of a text. -/
theorem run_sliceStr {t : TypeId} (ht : P.underlying t = some .string) (s : ByteArray) (hi lo : Option Value) (hn ln : Nat)
    (hhi : (hi = none ∧ hn = s.size) ∨ ∃ k n, hi = some (.int k n) ∧ 0 ≤ n ∧ n.toNat = hn) (hh : hn ≤ s.size)
    (hlo : (lo = none ∧ ln = 0) ∨ ∃ k n, lo = some (.int k n) ∧ 0 ≤ n ∧ n.toNat = ln) (hl : ln ≤ hn) (w : World) :
    (Instr.sliceAt t (.string s) lo hi none).run P w = .ok (.string (s.extract ln hn)) w := by
  rcases hhi with ⟨rfl, rfl⟩ | ⟨kh, h, rfl, h0, rfl⟩ <;> rcases hlo with ⟨rfl, rfl⟩ | ⟨kl, l, rfl, l0, rfl⟩
  · simp [Instr.sliceAt, run_und ht, Instr.slice, Instr.sliceBounds]
  · simp [Instr.sliceAt, run_und ht, Instr.slice, Instr.sliceBounds, run_bound (P := P) l0 (show l ≤ (s.size : Int) by omega)]
  · simp [Instr.sliceAt, run_und ht, Instr.slice, Instr.sliceBounds, run_bound (P := P) h0 (show h ≤ (s.size : Int) by omega)]
  · simp [Instr.sliceAt, run_und ht, Instr.slice, Instr.sliceBounds, run_bound (P := P) h0 (show h ≤ (s.size : Int) by omega), run_bound (P := P) l0 (show l ≤ ((h.toNat : Nat) : Int) by omega)]

theorem slice_rel {ρ : List Loc} {r i len hn ln c : Nat} {st : Bool} {l : Loc} {a : Addr} {s : Nat} (hρ : At ρ r l) (h1 : len ≤ c) (hc : c ≤ l.cap - i) (h2 : 0 < c → a = ⟨l.b, l.off + i * l.esz, none⟩) (hs : l.esz = s)
    (hh : hn ≤ len) (hl : ln ≤ hn) : AVR ρ (.slice r (i + ln) (hn - ln) st) (.slice (if c = ln then some a else (some a).map (·.add (ln * s))) (hn - ln) (c - ln)) := by
  split
  · exact .slice hρ (by omega) (by omega) (fun h => by omega)
  · simp only [Option.map_some]
    refine .slice hρ (by omega) (by omega) (fun h => ?_)
    rw [h2 (by omega), addr_add, ← hs, Nat.add_mul, Nat.add_assoc]

/-- Of an array, by its address. -/
theorem run_sliceArr {t e : TypeId} {s n : Nat} (ht : P.underlying t = some (.array n e)) (hs : sizeAt P e = some s) (a : Addr) (hi lo : Option Value) (hn ln : Nat)
    (hhi : (hi = none ∧ hn = n) ∨ ∃ k m, hi = some (.int k m) ∧ 0 ≤ m ∧ m.toNat = hn) (hh : hn ≤ n)
    (hlo : (lo = none ∧ ln = 0) ∨ ∃ k m, lo = some (.int k m) ∧ 0 ≤ m ∧ m.toNat = ln) (hl : ln ≤ hn) (w : World) :
    (Instr.sliceAt t (.pointer (some a)) lo hi none).run P w = .ok (.slice (some (if n = ln then a else a.add (ln * s))) (hn - ln) (n - ln)) w := by
  rcases hhi with ⟨rfl, rfl⟩ | ⟨kh, h, rfl, h0, rfl⟩ <;> rcases hlo with ⟨rfl, rfl⟩ | ⟨kl, l, rfl, l0, rfl⟩
  · simp [Instr.sliceAt, run_und ht, Instr.sureAddr, Instr.sliceBounds, run_size hs]
  · simp [Instr.sliceAt, run_und ht, Instr.sureAddr, Instr.sliceBounds, run_size hs, run_bound (P := P) l0 (show l ≤ (hn : Int) by omega)]
  · simp [Instr.sliceAt, run_und ht, Instr.sureAddr, Instr.sliceBounds, run_size hs, run_bound (P := P) h0 (show h ≤ (n : Int) by omega)]
  · simp [Instr.sliceAt, run_und ht, Instr.sureAddr, Instr.sliceBounds, run_size hs, run_bound (P := P) h0 (show h ≤ (n : Int) by omega), run_bound (P := P) l0 (show l ≤ ((h.toNat : Nat) : Int) by omega)]

theorem slice_ix {ρ : List Loc} {st : St} {a : Act} (hT : TmpsR ρ st.t a) (y : Option Operand) {len dflt : Nat} {c : Bool} {hs : List Hint} {K : Nat → Bool → List Hint → Prop}
    (h : (match y with | none => fun (K : Nat → Bool → List Hint → Prop) => K dflt c hs | some y => withIx (st.op y) (len + 1) c hs) K) (hd : dflt ≤ len) :
    ∃ n c' hs', K n c' hs' ∧ n ≤ len ∧ ((y.map a.eval = none ∧ n = dflt) ∨ ∃ k m, y.map a.eval = some (.int k m) ∧ 0 ≤ m ∧ m.toNat = n) := by
  cases y with
  | none => exact ⟨_, _, _, h, hd, .inl ⟨rfl, rfl⟩⟩
  | some y =>
    obtain ⟨s, k, n, c', hs', hx, h0, h1, hk⟩ := withIx_iff h
    exact ⟨_, _, _, hk, by omega, .inr ⟨k, n, by simp [asInt_rel (hT.op y) hx], h0, rfl⟩⟩

theorem builtinQ_sound {ρ : List Loc} {b : Builtin} {tys : List TypeId} {args : List AV} {vs : List Value} {K : AV → Prop} (h : builtinQ P b tys args K) (hr : AVRs ρ args vs) (ty : TypeId) :
    ∃ x u, K x ∧ AVR ρ x u ∧ ∀ consts w, (builtin b tys.toArray ty consts vs.toArray).run P w = .ok (.value u) w := by
  unfold builtinQ at h
  split at h
  · rename_i x
    cases hr with
    | cons hx hr => cases hr with
      | nil =>
        split at h
        · rename_i r i n st t
          split at h
          · rename_i e ht
            obtain ⟨l, a, _, _, _, _, _, rfl⟩ := slice_inv hx
            exact ⟨_, _, h, mkInt_rel _ _ _, fun _ w => by simp [builtin, Builtin.len_, run_und ht, goInt]⟩
          · exact h.elim
        · rename_i r i n t
          split at h
          · rename_i e ht
            rcases vsl_inv hx with ⟨rfl, rfl⟩ | hx'
            · exact ⟨_, _, h, mkInt_rel _ _ _, fun _ w => by simp [builtin, Builtin.len_, run_und ht, goInt]⟩
            · obtain ⟨l, a, _, _, _, _, _, rfl⟩ := slice_inv (hx' true)
              exact ⟨_, _, h, mkInt_rel _ _ _, fun _ w => by simp [builtin, Builtin.len_, run_und ht, goInt]⟩
          · exact h.elim
        · rename_i a n c t
          split at h
          · rename_i e ht
            cases hx
            exact ⟨_, _, h, mkInt_rel _ _ _, fun _ w => by simp [builtin, Builtin.len_, run_und ht, goInt]⟩
          · exact h.elim
        · rename_i t _ _
          split at h
          · rename_i ht
            split at h
            · rename_i s hs
              rw [asStr_rel hx hs]
              exact ⟨_, _, h, mkInt_rel _ _ _, fun _ w => by simp [builtin, Builtin.len_, run_und ht, goInt]⟩
            · exact h.elim
          · rename_i n e ht
            refine ⟨_, _, h, mkInt_rel _ _ _, fun _ w => ?_⟩
            simp [builtin, Builtin.len_, run_und ht, goInt]
          · exact h.elim
        · exact h.elim
  · rename_i x y
    cases hr with
    | cons hx hr => cases hr with
      | cons hy hr => cases hr with
        | nil =>
          split at h
          · rename_i h1 h2
            rw [asInt_rel hx h1, asInt_rel hy h2]
            exact ⟨_, _, h, mkInt_rel _ _ _, fun _ w => by simp [builtin, Builtin.min_, Builtin.min2]⟩
          · exact h.elim
  · rename_i x y z
    cases hr with
    | cons hx hr => cases hr with
      | cons hy hr => cases hr with
        | cons hz hr => cases hr with
          | nil =>
            split at h
            · rename_i h1 h2 h3
              rw [asInt_rel hx h1, asInt_rel hy h2, asInt_rel hz h3]
              refine ⟨_, _, h, mkInt_rel _ _ _, fun _ w => ?_⟩
              simp only [builtin, Builtin.min_]
              split <;> simp [Builtin.min2, *]
            · exact h.elim
  · rename_i x y
    cases hr with
    | cons hx hr => cases hr with
      | cons hy hr => cases hr with
        | nil =>
          split at h
          · rename_i h1 h2
            rw [asInt_rel hx h1, asInt_rel hy h2]
            exact ⟨_, _, h, mkInt_rel _ _ _, fun _ w => by simp [builtin, Builtin.max_, Builtin.max2]⟩
          · exact h.elim
  · exact h.elim

theorem qOp_sound {B : Gd} {ρ : List Loc} {st : St} {o : Oper} {hs : List Hint} {K : AV → List Hint → Prop} {a : Act} {w0 : World} (h : qOp P st o.op hs K) (hH : HpR B ρ st.h w0) (hT : TmpsR ρ st.t a) :
    ∃ x hs' u, K x hs' ∧ AVR ρ x u ∧ ∀ w, (blind o.op = true ∨ Same ρ st.h w0 w) → (execOp a.eval o).run P w = .ok (.value u) w := by
  obtain ⟨dst, op, type, pos, after, guard⟩ := o
  dsimp only at h ⊢
  unfold qOp at h
  split at h
  · rename_i x; exact ⟨_, _, _, h, hT.op x, fun w _ => by simp [execOp]⟩
  · rename_i x; exact ⟨_, _, _, h, hT.op x, fun w _ => by simp [execOp]⟩
  · rename_i c x y
    obtain ⟨s, b, hs', hb, hk⟩ := test_iff h
    have hc := asBool_rel (hT.op c) hb
    refine ⟨_, _, if b then a.eval x else a.eval y, hk, ?_, fun w _ => ?_⟩
    · cases b
      · exact hT.op y
      · exact hT.op x
    · simp [execOp, hc, asBool]
  · rename_i t parts
    obtain ⟨x, u, hk, hx, hr⟩ := build_sound (P := P) (ρ := ρ) (vals := parts.toList.map fun p => (p.1, a.eval p.2)) h (by simp) (by
      have := hT.ops (parts.toList.map (·.2)); simpa [Function.comp_def] using this)
    refine ⟨x, _, u, hk, hx, fun w _ => ?_⟩
    have e : (parts.map fun (p : Nat × Operand) => (p.1, a.eval p.2)) = (parts.toList.map fun p => (p.1, a.eval p.2)).toArray := by
      cases parts; simp
    have := hr w
    rw [← e] at this
    simp only [execOp, Sem.run_bind]
    rw [this]
    rfl
  · rename_i t x
    unfold load at h
    have hx := hT.op x
    split at h
    · rename_i r i o s hop
      rw [hop] at hx
      obtain ⟨l, hl, he⟩ := ptr_inv hx
      split at h
      · exact h.elim
      · rename_i k hk
        have hb := hH.blk r k l hk hl
        have fin : ∀ v, k.read P t i o = some v → ∃ u, AVR ρ v u ∧ ∀ w, (blind (Op.load t x) = true ∨ Same ρ st.h w0 w) → (execOp a.eval ⟨dst, Op.load t x, type, pos, after, guard⟩).run P w = .ok (.value u) w := by
          intro v hv
          obtain ⟨u, hu, hr⟩ := read_sound hb hv
          refine ⟨u, hu, fun w hw => ?_⟩
          have hsame : Same ρ st.h w0 w := hw.resolve_left (by simp [blind])
          have := hr w (hsame.1 r k l hk hl)
          simp [execOp, he, Instr.loadAt, Instr.sureAddr, this]
        split at h
        · split at h
          · rename_i v hv
            obtain ⟨u, hu, hr⟩ := fin v hv
            exact ⟨_, _, _, h, hu, hr⟩
          · exact h.elim
        · split at h
          · obtain ⟨hv, h⟩ := h
            obtain ⟨u, hu, hr⟩ := fin _ hv
            exact ⟨_, _, _, h, hu, hr⟩
          · exact h.elim
    · rename_i q hop
      rw [hop] at hx
      generalize he : a.eval x = vx at hx
      cases hx
      have h : ∃ r k i ag v hs', memRow 0 st.h = some (r, k) ∧ P.info? t = some i ∧ isAggT P t = some ag ∧ M.mread k.elems q ag i.size = some v ∧ K v hs' := by
        split at h
        · exact ⟨_, _, _, _, _, _, by assumption, by assumption, by assumption, h.1, h.2⟩
        · split at h
          · exact ⟨_, _, _, _, _, _, by assumption, by assumption, by assumption, h.1, h.2⟩
          · exact h.elim
        · exact h.elim
      · obtain ⟨r, k, i, ag, v, hs', hm, hi, hag, hread, hK9⟩ := h
        obtain ⟨hob, hty, l, hl⟩ := hH.memory hm
        obtain ⟨o, hO⟩ := hH.objs
        obtain ⟨h1, h2, _, _⟩ := hO.is r k l hob hl
        rw [hty] at h1
        obtain ⟨m, hes, hR⟩ := h1.rawMem (fun _ _ => rawI_mem) fun _ _ => reprO_mem
        rw [hes] at hread
        obtain ⟨b, o', rfl, hbo, u, hu, hr⟩ := mread_sound hR hi hag hread
        refine ⟨_, _, u, hK9, hu.of_nil, fun w hw => ?_⟩
        have hsame : Same ρ st.h w0 w := hw.resolve_left (by simp [blind])
        have := hr w (hsame.2 ⟨_, hm⟩ b (h2 b hbo))
        simp [execOp, he, Instr.loadAt, Instr.sureAddr, this]
    · exact h.elim
  · rename_i x
    have hx := hT.op x
    split at h
    · rename_i hop
      rw [hop] at hx
      obtain ⟨l, hl, he⟩ := ptr_inv hx
      exact ⟨_, _, _, h, hx, fun w _ => by simp [execOp, he]⟩
    · rename_i q hop
      rw [hop] at hx
      obtain ⟨hq, h⟩ := h
      generalize he : a.eval x = vx at hx
      cases hx
      refine ⟨_, _, _, h, .val _, fun w _ => ?_⟩
      cases q with
      | none => cases hq
      | some ad => simp [execOp, he]
    · rename_i hop
      rw [hop] at hx
      generalize he : a.eval x = v at hx
      cases hx with
      | func h1 h2 => exact ⟨_, _, _, h, .func h1 h2, fun w _ => by simp [execOp, he]⟩
    · exact h.elim
  · rename_i op t x y _
    obtain ⟨z, hs', r, hk, hz, hr⟩ := binOp_sound h (hT.op x) (hT.op y) x y
    refine ⟨_, _, _, hk, hz, fun w _ => ?_⟩
    have := hr w
    simp only [execOp, Sem.run_bind] at this ⊢
    rw [this]; rfl
  · rename_i op t x
    obtain ⟨z, r, hk, hz, hr⟩ := unOp_sound (P := P) h (hT.op x)
    exact ⟨_, _, _, hk, hz, fun w _ => by simp [execOp, hr]⟩
  · rename_i s d x
    split at h
    · rename_i k' k c k'' n h1 h2 h3
      have hrun : ∀ w, (execOp a.eval ⟨dst, Op.convert s d x, type, pos, after, guard⟩).run P w = .ok (.value (.int k (k.wrap n))) w := fun w => by
        simp [execOp, asInt_rel (hT.op x) h3, convert, run_und h1, run_und h2, Conv.intToInt]
      split at h
      · rename_i h4
        have h5 := (asInt_rel (hT.op x) h3).symm.trans (asW_rel (hT.op x) h4)
        cases h5
        refine ⟨_, _, _, h, .w64 _, fun w _ => ?_⟩
        rw [hrun, wrap_toNat]
      · refine ⟨_, _, _, h, .w64 _, fun w _ => ?_⟩
        rw [hrun, wrap_u64, BitVec.toNat_ofInt]
        congr 3
        omega
      · exact ⟨_, _, _, h, mkInt_rel _ _ _, fun w _ => hrun w⟩
    · exact h.elim
  · rename_i t x
    split at h
    · exact h.elim
    · exact h.elim
    · rename_i d hd ht
      refine ⟨_, _, _, h, .iface (hT.op x), fun w _ => ?_⟩
      simp only [execOp, Instr.makeInterface, Sem.run_bind, run_und ht, Result.andThen_ok]
      cases d <;> first | rfl | (exact absurd rfl (hd _))
  · rename_i fn first captured
    refine ⟨_, _, _, h, .func (hT.ops _) (hT.ops _), fun w _ => ?_⟩
    cases first; cases captured
    simp [execOp, Instr.makeFunc]
  · rename_i s x f
    have hx := hT.op x
    split at h
    · rename_i fs r i o c hs hop
      rw [hop] at hx
      obtain ⟨l, hl, he⟩ := ptr_inv hx
      split at h
      · rename_i fd hfd
        split at h
        · rename_i n hsz
          have hfd' : fs[f]? = some fd := by simpa using hfd
          split at h
          · rename_i h1
            unfold esz1 at h1
            split at h1
            case h_2 => cases h1
            rename_i kb hkb
            have hle := (hH.blk r kb l hkb hl).esz
            rw [of_decide_eq_true h1] at hle
            refine ⟨_, _, _, h, .ptr hl, fun w _ => ?_⟩
            simp [execOp, Instr.fieldAt, run_und hs, hfd', he, Instr.sureAddr, fieldPlace, run_size hsz, addr_add, Nat.add_assoc, hle]
          · refine ⟨_, _, _, h, .ptr hl, fun w _ => ?_⟩
            simp [execOp, Instr.fieldAt, run_und hs, hfd', he, Instr.sureAddr, fieldPlace, run_size hsz, addr_add, Nat.add_assoc]
        · exact h.elim
      · exact h.elim
    · rename_i fs q hs hop
      rw [hop] at hx
      generalize he : a.eval x = vx at hx
      cases hx
      split at h
      · rename_i fd hfd
        split at h
        · rename_i n hsz
          obtain ⟨hq, h⟩ := h
          obtain ⟨b, o, rfl⟩ := sure_some hq
          refine ⟨_, _, _, h, .val _, fun w _ => ?_⟩
          have hfd' : fs[f]? = some fd := by simpa using hfd
          simp [execOp, Instr.fieldAt, run_und hs, hfd', he, Instr.sureAddr, fieldPlace, run_size hsz, addr_add, M.shift]
        · exact h.elim
      · exact h.elim
    · exact h.elim
  · rename_i t x f
    have hx := hT.op x
    split at h
    · rename_i fs cs hs hop
      rw [hop] at hx
      obtain ⟨vs, hvs, he⟩ := agg_inv hx
      split at h
      · rename_i fd hfd
        split at h
        · rename_i v hv
          obtain ⟨u, hu, hr⟩ := part_sound (P := P) hv hvs
          have hfd' : fs[f]? = some fd := by simpa using hfd
          exact ⟨_, _, _, h, hu, fun w _ => by simp [execOp, Instr.field, run_und hs, hfd', he, asAgg, hr]⟩
        · exact h.elim
      · exact h.elim
    · exact h.elim
  · rename_i t x ix
    have hx := hT.op x
    split at h
    · rename_i len e r i o c ht hop
      rw [hop] at hx
      obtain ⟨l, hl, he⟩ := ptr_inv hx
      split at h
      · rename_i s hs
        obtain ⟨s', k, n, c', hs', hi, h0, h1, hk⟩ := withIx_iff h
        have hrun : ∀ w : World, (execOp a.eval ⟨dst, Op.indexAddr t x ix, type, pos, after, guard⟩).run P w = .ok (.value (.pointer (some ⟨l.b, l.off + i * l.esz + (o + n.toNat * s), none⟩))) w := fun w => by
          simp only [execOp, Sem.run_bind, he, asInt_rel (hT.op ix) hi, run_indexAt_arr ht hs _ _ k n h0 h1, Result.andThen_ok, Sem.run_pure, Nat.add_assoc]
        split at hk
        · rename_i kb hkb
          have hle := (hH.blk r kb l hkb hl).esz
          split at hk
          · rename_i hes
            have hes := of_decide_eq_true hes
            refine ⟨_, _, _, hk, .ptr hl, fun w _ => ?_⟩
            rw [hrun, hle, hes, Nat.add_mul, Nat.zero_add, Nat.add_zero, Nat.add_assoc]
          · exact ⟨_, _, _, hk, .ptr hl, fun w _ => hrun w⟩
        · exact ⟨_, _, _, hk, .ptr hl, fun w _ => hrun w⟩
      · exact h.elim
    · rename_i len e q ht hop
      rw [hop] at hx
      generalize he : a.eval x = vx at hx
      cases hx
      split at h
      · rename_i s hs
        obtain ⟨s', k, n, c', hs', hi, h0, h1, hq, hk⟩ := withIx_iff h
        obtain ⟨b, o, rfl⟩ := sure_some hq
        refine ⟨_, _, _, hk, .val _, fun w _ => ?_⟩
        simp only [execOp, Sem.run_bind, he, asInt_rel (hT.op ix) hi, run_indexAt_arr ht hs _ _ k n h0 h1, Result.andThen_ok, Sem.run_pure, M.shift]
      · exact h.elim
    · rename_i e r i len c ht hop
      rw [hop] at hx
      obtain ⟨l, ad, cc, hl, h1, hcc, h2, he⟩ := slice_inv hx
      split at h
      · rename_i k s hk hs
        split at h
        · rename_i hesz
          have hesz := of_decide_eq_true hesz
          obtain ⟨s', ki, n, c', hs', hi, h0, hn, hK⟩ := withIx_iff h
          have hle : l.esz = s := (hH.blk r k l hk hl).esz.trans hesz
          have ha := h2 (by omega)
          subst ha
          refine ⟨_, _, _, hK, .ptr (i := i + n.toNat) (o := 0) hl, fun w _ => ?_⟩
          simp only [execOp, Sem.run_bind, he, asInt_rel (hT.op ix) hi, run_indexAt_slice ht hs _ _ _ _ ki n h0 hn, Result.andThen_ok, Sem.run_pure, hle, Nat.add_mul, Nat.add_assoc, Nat.add_zero]
        · exact h.elim
      · exact h.elim
    · rename_i e r i len ht hop
      rw [hop] at hx
      split at h
      · rename_i k s hk hs
        split at h
        · rename_i hesz
          have hesz := of_decide_eq_true hesz
          obtain ⟨s', ki, n, c', hs', hi, h0, hn, hK⟩ := withIx_iff h
          have hx := (vsl_inv hx).resolve_left (by omega) true
          obtain ⟨l, ad, cc, hl, h1, hcc, h2, he⟩ := slice_inv hx
          have hle : l.esz = s := (hH.blk r k l hk hl).esz.trans hesz
          have ha := h2 (by omega)
          subst ha
          refine ⟨_, _, _, hK, .ptr (i := i + n.toNat) (o := 0) hl, fun w _ => ?_⟩
          simp only [execOp, Sem.run_bind, he, asInt_rel (hT.op ix) hi, run_indexAt_slice ht hs _ _ _ _ ki n h0 hn, Result.andThen_ok, Sem.run_pure, hle, Nat.add_mul, Nat.add_assoc, Nat.add_zero]
        · exact h.elim
      · exact h.elim
    · exact h.elim
  · rename_i t x ix
    have hx := hT.op x
    split at h
    · rename_i len e cs ht hop
      rw [hop] at hx
      obtain ⟨vs, hvs, he⟩ := agg_inv hx
      split at h
      · rename_i s hs
        obtain ⟨s', k, n, c', hs', hi, h0, h1, hk⟩ := withIx_iff h
        have fin : ∀ v, partOf P e cs (n.toNat * s) = some v → ∃ u, AVR ρ v u ∧ ∀ w, (execOp a.eval ⟨dst, Op.index t x ix, type, pos, after, guard⟩).run P w = .ok (.value u) w := by
          intro v hv
          obtain ⟨u, hu, hr⟩ := part_sound (P := P) hv hvs
          exact ⟨u, hu, fun w => by simp [execOp, he, asInt_rel (hT.op ix) hi, Instr.index, asIntOf, run_und ht, h0, h1, run_size hs, hr]⟩
        split at hk
        · split at hk
          · rename_i v hv
            obtain ⟨u, hu, hr⟩ := fin v hv
            exact ⟨_, _, _, hk, hu, fun w _ => hr w⟩
          · exact hk.elim
        · split at hk
          · obtain ⟨hv, hk⟩ := hk
            obtain ⟨u, hu, hr⟩ := fin _ hv
            exact ⟨_, _, _, hk, hu, fun w _ => hr w⟩
          · exact hk.elim
      · exact h.elim
    · rename_i x' ht
      split at h
      · rename_i s str hstr
        obtain ⟨s', k, n, c', hs', hi, h0, h1, hk⟩ := withIx_iff h
        split at hk
        · split at hk
          · rename_i b hb
            refine ⟨_, _, _, hk, .lit _, fun w _ => ?_⟩
            simp [execOp, asStr_rel hx hstr, asInt_rel (hT.op ix) hi, Instr.index, asIntOf, run_und ht, h0, hb]
          · exact hk.elim
        · split at hk
          · rename_i b hs''
            obtain ⟨hb, hk⟩ := hk
            refine ⟨_, _, .int .u8 b, hk, .int _ _, fun w _ => ?_⟩
            cases hg : str[n.toNat]? with
            | none => simp [hg] at hb
            | some ub =>
              simp [hg] at hb
              simp [execOp, asStr_rel hx hstr, asInt_rel (hT.op ix) hi, Instr.index, asIntOf, run_und ht, h0, hg, hb]
          · exact hk.elim
      · exact h.elim
    · exact h.elim
  · rename_i t i
    have hx := hT.op t
    split at h
    · rename_i vs hop
      rw [hop] at hx
      split at h
      · rename_i v hv
        generalize he : a.eval t = tv at hx
        cases hx with
        | tuple hx =>
          obtain ⟨u, hu, hr⟩ := hx.get hv
          exact ⟨_, _, _, h, hr, fun w _ => by simp [execOp, he, Instr.extract, hu]⟩
      · exact h.elim
    · exact h.elim
  · rename_i t x lo hi
    have hx := hT.op x
    split at h
    · rename_i len e r i c ht hop
      rw [hop] at hx
      obtain ⟨l, hl, he⟩ := ptr_inv hx
      split at h
      · rename_i k s hk hs
        split at h
        · exact h.elim
        · rename_i hesz
          obtain ⟨g1, g2, g3, g4⟩ := of_decide_eq_true hesz
          have hb := hH.blk r k l hk hl
          have hle : l.esz = s := hb.esz.trans g1
          obtain ⟨_, _, _, _, _, g5⟩ := hb.row
          have g6 := (g5 g3).2.2.2.2.2.2
          obtain ⟨hn, hc, hs1, hK1, hhn, hhi⟩ := slice_ix hT hi h (Nat.le_refl _)
          obtain ⟨ln, lc, hs2, hK2, hln, hlo⟩ := slice_ix hT lo hK1 (Nat.zero_le _)
          refine ⟨_, _, .slice (some (if len = ln then ⟨l.b, l.off + i * l.esz + 0, none⟩ else ⟨l.b, l.off + i * l.esz + 0 + ln * s, none⟩)) (hn - ln) (len - ln), hK2, .slice hl (by omega) (by omega) (fun hp => ?_), fun w _ => ?_⟩
          · rw [if_neg (by omega), ← hle, Nat.add_mul, Nat.add_zero, Nat.add_assoc]
          · have := run_sliceArr (P := P) ht hs ⟨l.b, l.off + i * l.esz + 0, none⟩ (hi.map a.eval) (lo.map a.eval) hn ln hhi hhn hlo hln w
            rw [addr_add] at this
            simp only [execOp, he, Option.map_none, Sem.run_bind]
            rw [this]
            rfl
      · exact h.elim
    · rename_i e r i len c ht hop
      rw [hop] at hx
      obtain ⟨l, ad, cc, hl, h1, hcc, h2, he⟩ := slice_inv hx
      split at h
      · rename_i k s hk hs
        split at h
        · exact h.elim
        · rename_i hesz
          have hesz := of_decide_eq_true hesz
          have hle : l.esz = s := (hH.blk r k l hk hl).esz.trans hesz.1
          obtain ⟨hn, hc, hs1, hK1, hhn, hhi⟩ := slice_ix hT hi h (Nat.le_refl _)
          obtain ⟨ln, lc, hs2, hK2, hln, hlo⟩ := slice_ix hT lo hK1 (Nat.zero_le _)
          refine ⟨_, _, _, hK2, slice_rel hl h1 hcc h2 hle hhn hln, fun w _ => ?_⟩
          have := run_sliceAt (P := P) ht hs (some ad) len cc (hi.map a.eval) (lo.map a.eval) hn ln hhi hhn h1 hlo hln w
          simp only [execOp, he, Option.map_none, Sem.run_bind]
          rw [this]
          rfl
      · exact h.elim
    · rename_i e r i len ht hop
      rw [hop] at hx
      split at h
      · rename_i k s hk hs
        split at h
        · exact h.elim
        · rename_i hesz
          have hesz := of_decide_eq_true hesz
          obtain ⟨hn, hc, hs1, hK1, hhn, hhi⟩ := slice_ix hT hi h (Nat.le_refl _)
          obtain ⟨ln, lc, hs2, hK2, hln, hlo⟩ := slice_ix hT lo hK1 (Nat.zero_le _)
          rcases vsl_inv hx with ⟨rfl, he⟩ | hx
          · obtain rfl : hn = 0 := by omega
            obtain rfl : ln = 0 := by omega
            refine ⟨_, _, .slice none 0 0, hK2, .vslN rfl, fun w _ => ?_⟩
            have := run_sliceAt (P := P) ht hs none 0 0 (hi.map a.eval) (lo.map a.eval) 0 0 hhi (Nat.le_refl _) (Nat.le_refl _) hlo (Nat.le_refl _) w
            simp only [execOp, he, Option.map_none, Sem.run_bind]
            rw [this]
            rfl
          · obtain ⟨l, ad, cc, hl, h1, hcc, h2, he⟩ := slice_inv (hx true)
            have hle : l.esz = s := (hH.blk r k l hk hl).esz.trans hesz.1
            refine ⟨_, _, _, hK2, vsl_of (st := true) (slice_rel hl h1 hcc h2 hle hhn hln), fun w _ => ?_⟩
            have := run_sliceAt (P := P) ht hs (some ad) len cc (hi.map a.eval) (lo.map a.eval) hn ln hhi hhn h1 hlo hln w
            simp only [execOp, he, Option.map_none, Sem.run_bind]
            rw [this]
            rfl
      · exact h.elim
    · rename_i ht
      split at h
      · rename_i c s hs
        have he := asStr_rel hx hs
        obtain ⟨hn, hc, hs1, hK1, hhn, hhi⟩ := slice_ix hT hi h (Nat.le_refl _)
        obtain ⟨ln, lc, hs2, hK2, hln, hlo⟩ := slice_ix hT lo hK1 (Nat.zero_le _)
        refine ⟨_, _, _, hK2, mkStr_rel _ _, fun w _ => ?_⟩
        have := run_sliceStr (P := P) ht s (hi.map a.eval) (lo.map a.eval) hn ln hhi hhn hlo hln w
        simp only [execOp, he, Option.map_none, Sem.run_bind]
        rw [this]
        rfl
      · exact h.elim
    · exact h.elim
  · rename_i t x lo y z
    have hx := hT.op x
    split at h
    · rename_i e r i len c ht hop
      rw [hop] at hx
      obtain ⟨l, ad, cc, hl, h1, hcc, h2, he⟩ := slice_inv hx
      split at h
      · rename_i k s hk hs
        split at h
        · exact h.elim
        · rename_i hesz
          have hesz := of_decide_eq_true hesz
          have hle : l.esz = s := (hH.blk r k l hk hl).esz.trans hesz.1
          obtain ⟨mn, mc, hs0, hK0, hmn, hmx⟩ := slice_ix hT (some z) h (Nat.zero_le _)
          obtain ⟨hn, hc, hs1, hK1, hhn, hhi⟩ := slice_ix hT (some y) hK0 (Nat.zero_le _)
          obtain ⟨ln, lc, hs2, hK2, hln, hlo⟩ := slice_ix hT lo hK1 (Nat.zero_le _)
          obtain ⟨hm, _⟩ | ⟨km, m, hm, m0, rfl⟩ := hmx
          · cases hm
          obtain ⟨hy, _⟩ | ⟨kh, n, hy, n0, rfl⟩ := hhi
          · cases hy
          refine ⟨_, _, _, hK2, slice_rel hl (Nat.le_refl m.toNat) (by omega) (fun hp => h2 (by omega)) hle hhn hln, fun w _ => ?_⟩
          have := run_sliceAt3 (P := P) ht hs (some ad) len cc kh km n m (lo.map a.eval) ln n0 hhn m0 (by omega) hlo hln w
          rw [← hm, ← hy] at this
          simp only [execOp, he, Sem.run_bind]
          rw [this]
          rfl
      · exact h.elim
    · rename_i e r i len ht hop
      rw [hop] at hx
      split at h
      · rename_i k s hk hs
        split at h
        · exact h.elim
        · rename_i hesz
          have hesz := of_decide_eq_true hesz
          obtain ⟨mn, mc, hs0, hK0, hmn, hmx⟩ := slice_ix hT (some z) h (Nat.zero_le _)
          obtain ⟨hn, hc, hs1, hK1, hhn, hhi⟩ := slice_ix hT (some y) hK0 (Nat.zero_le _)
          obtain ⟨ln, lc, hs2, hK2, hln, hlo⟩ := slice_ix hT lo hK1 (Nat.zero_le _)
          obtain ⟨hm, _⟩ | ⟨km, m, hm, m0, rfl⟩ := hmx
          · cases hm
          obtain ⟨hy, _⟩ | ⟨kh, n, hy, n0, rfl⟩ := hhi
          · cases hy
          rcases vsl_inv hx with ⟨rfl, he⟩ | hx
          · have z1 : m.toNat = 0 := by omega
            have z2 : n.toNat = 0 := by omega
            obtain rfl : ln = 0 := by omega
            refine ⟨_, _, .slice none 0 0, hK2, .vslN (by omega), fun w _ => ?_⟩
            have := run_sliceAt3 (P := P) ht hs none 0 0 kh km n m (lo.map a.eval) 0 n0 hhn m0 (by omega) hlo hln w
            rw [← hm, ← hy, z1, z2] at this
            simp only [execOp, he, Sem.run_bind]
            rw [this]
            rfl
          · obtain ⟨l, ad, cc, hl, h1, hcc, h2, he⟩ := slice_inv (hx true)
            have hle : l.esz = s := (hH.blk r k l hk hl).esz.trans hesz.1
            refine ⟨_, _, _, hK2, vsl_of (st := true) (slice_rel hl (Nat.le_refl m.toNat) (by omega) (fun hp => h2 (by omega)) hle hhn hln), fun w _ => ?_⟩
            have := run_sliceAt3 (P := P) ht hs (some ad) len cc kh km n m (lo.map a.eval) ln n0 hhn m0 (by omega) hlo hln w
            rw [← hm, ← hy] at this
            simp only [execOp, he, Sem.run_bind]
            rw [this]
            rfl
      · exact h.elim
    · exact h.elim
  · rename_i b args argTypes
    obtain ⟨x, u, hk, hx, hr⟩ := builtinQ_sound (P := P) h (hT.ops args.toList) type
    refine ⟨_, _, _, hk, hx, fun w _ => ?_⟩
    have := hr (args.map fun | .const _ => true | _ => false) w
    have e : (args.toList.map a.eval).toArray = args.map a.eval := by cases args; simp
    simp only [execOp, resolve, invoke, Sem.run_bind, Sem.run_pure, Result.andThen_ok]
    rw [e] at this
    rw [← hr _ w, e]
  · exact h.elim

end
end Go.Sx
