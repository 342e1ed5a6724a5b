/-
  The calculus (SxA): what its values and rows of memory stand for; what only reads.
-/
import Derived.Test.YthfgocpejlhanaaSxA
import Derived.Test.YthfgocpejlhanaaGl
import Derived.Test.YthfgocpejlhanaaOb
import Derived.WalkKit
import Derived.Laws.StructEq
import Derived.Laws.MakeOwn
import Derived.Laws.OwnMore
import Derived.Laws.Slices
import Derived.Laws.Build
import Derived.Laws.Tables
namespace Go.Sx
open Go.RowKit

structure Loc where
  b : Nat
  off : Nat
  esz : Nat
  cap : Nat
  ph : Bool

/-- Blocks that are guarded: nobody writes them. -/
abbrev Gd := Nat → Prop

def bl (n : Nat) : Gd := fun b => b < n

instance : Coe Nat Gd := ⟨bl⟩

def Gd.le (B B' : Gd) : Prop := ∀ b, B b → B' b

theorem Gd.le.refl (B : Gd) : Gd.le B B := fun _ h => h
theorem Gd.le.trans {B B' B'' : Gd} (h : Gd.le B B') (h' : Gd.le B' B'') : Gd.le B B'' := fun b hb => h' b (h b hb)
theorem bl_mono {m n : Nat} (h : m ≤ n) : Gd.le (bl m) (bl n) := fun _ hb => Nat.lt_of_lt_of_le hb h

/-- Row r is at l, where there is one (a slice that is nil has none). -/
def At (ρ : List Loc) (r : Nat) (l : Loc) : Prop := ρ[r]? = some l ∧ l.ph = false

mutual
inductive AVR (ρ : List Loc) : AV → Value → Prop
  | any (v : Value) : AVR ρ .any v
  | lit (v : Value) : AVR ρ (.lit v) v
  | int (k : IntKind) (n : Int) : AVR ρ (.int k n) (.int k n)
  | w64 (x : BitVec 64) : AVR ρ (.w64 x) (.int .u64 (x.toNat : Int))
  | bool (b : Bool) : AVR ρ (.bool b) (.bool b)
  | val (v : Value) : AVR ρ (.val v) v
  | ptr {r i o : Nat} {st : Bool} {l : Loc} : At ρ r l → AVR ρ (.ptr r i o st) (.pointer (some ⟨l.b, l.off + i * l.esz + o, none⟩))
  | slice {r i len c : Nat} {st : Bool} {l : Loc} {a : Addr} : At ρ r l → len ≤ c → c ≤ l.cap - i → (0 < c → a = ⟨l.b, l.off + i * l.esz, none⟩) →
      AVR ρ (.slice r i len st) (.slice (some a) len c)
  | vslS {r i len c : Nat} {l : Loc} {a : Addr} : At ρ r l → len ≤ c → c ≤ l.cap - i → (0 < c → a = ⟨l.b, l.off + i * l.esz, none⟩) →
      AVR ρ (.vsl r i len) (.slice (some a) len c)
  | vslN {r i len : Nat} : len = 0 → AVR ρ (.vsl r i len) (.slice none 0 0)
  | mp {r : Nat} {l : Loc} : At ρ r l → AVR ρ (.mp r) (.map (some l.b))
  | agg {cs : List AV} {vs : List Value} : AVRs ρ cs vs → AVR ρ (.agg cs) (.agg vs.toArray)
  | tuple {cs : List AV} {vs : List Value} : AVRs ρ cs vs → AVR ρ (.tuple cs) (.tuple vs.toArray)
  | func {fn : Fn} {a b : List AV} {va vb : List Value} : AVRs ρ a va → AVRs ρ b vb → AVR ρ (.func fn a b) (.func fn va.toArray vb.toArray)
  | iface {t : TypeId} {x : AV} {v : Value} : AVR ρ x v → AVR ρ (.iface t x) (.iface t v)
inductive AVRs (ρ : List Loc) : List AV → List Value → Prop
  | nil : AVRs ρ [] []
  | cons {x : AV} {v : Value} {l : List AV} {m : List Value} : AVR ρ x v → AVRs ρ l m → AVRs ρ (x :: l) (v :: m)
end

theorem At.inj {ρ : List Loc} {r : Nat} {l l' : Loc} (h : At ρ r l) (h' : At ρ r l') : l = l' := Option.some.inj (h.1.symm.trans h'.1)

theorem At.new {ρ : List Loc} {l : Loc} {n : Nat} (hn : ρ.length = n) (hp : l.ph = false) : At (ρ ++ [l]) n l := ⟨by rw [← hn]; simp, hp⟩

theorem At.of {ρ : List Loc} {r : Nat} {l : Loc} (h : ρ[r]? = some l) (hp : l.ph = false) : At ρ r l := ⟨h, hp⟩

theorem getElem?_app {ρ : List Loc} {r : Nat} {l : Loc} (ρ' : List Loc) (h : At ρ r l) : At (ρ ++ ρ') r l := by
  have hr : r < ρ.length := (List.getElem?_eq_some_iff.1 h.1).1
  exact ⟨by rw [List.getElem?_append_left hr]; exact h.1, h.2⟩

mutual
theorem AVR.app {ρ : List Loc} (ρ' : List Loc) : ∀ {x : AV} {v : Value}, AVR ρ x v → AVR (ρ ++ ρ') x v
  | _, _, .any v => .any v
  | _, _, .lit v => .lit v
  | _, _, .int k n => .int k n
  | _, _, .w64 x => .w64 x
  | _, _, .bool b => .bool b
  | _, _, .val v => .val v
  | _, _, .ptr h => .ptr (getElem?_app ρ' h)
  | _, _, .slice h h1 h2 h3 => .slice (getElem?_app ρ' h) h1 h2 h3
  | _, _, .vslS h h1 h2 h3 => .vslS (getElem?_app ρ' h) h1 h2 h3
  | _, _, .vslN h => .vslN h
  | _, _, .mp h => .mp (getElem?_app ρ' h)
  | _, _, .agg h => .agg (AVRs.app ρ' h)
  | _, _, .tuple h => .tuple (AVRs.app ρ' h)
  | _, _, .func h h' => .func (AVRs.app ρ' h) (AVRs.app ρ' h')
  | _, _, .iface h => .iface (AVR.app ρ' h)
theorem AVRs.app {ρ : List Loc} (ρ' : List Loc) : ∀ {x : List AV} {v : List Value}, AVRs ρ x v → AVRs (ρ ++ ρ') x v
  | _, _, .nil => .nil
  | _, _, .cons h h' => .cons (AVR.app ρ' h) (AVRs.app ρ' h')
end

theorem AVR.of_nil {ρ : List Loc} {x : AV} {v : Value} (h : AVR [] x v) : AVR ρ x v := by simpa using AVR.app ρ h

theorem AVRs.length {ρ : List Loc} : ∀ {x : List AV} {v : List Value}, AVRs ρ x v → x.length = v.length
  | _, _, .nil => rfl
  | _, _, .cons _ h => by simp [AVRs.length h]

theorem AVRs.get {ρ : List Loc} : ∀ {xs : List AV} {vs : List Value}, AVRs ρ xs vs → ∀ {i : Nat} {x : AV}, xs[i]? = some x → ∃ v, vs[i]? = some v ∧ AVR ρ x v
  | _, _, .nil, i, x, h => by simp at h
  | _, _, .cons (v := v) h0 h1, 0, x, h => by simp at h; subst h; exact ⟨v, by simp, h0⟩
  | _, _, .cons h0 h1, i + 1, x, h => by simp at h; simpa using AVRs.get h1 h

theorem AVRs.mk {ρ : List Loc} : ∀ {xs : List AV} {vs : List Value}, xs.length = vs.length → (∀ (i : Nat) x v, xs[i]? = some x → vs[i]? = some v → AVR ρ x v) → AVRs ρ xs vs
  | [], [], _, _ => .nil
  | x :: xs, v :: vs, hl, h => .cons (h 0 x v (by simp) (by simp)) (AVRs.mk (by simpa using hl) fun i y u h1 h2 => h (i + 1) y u (by simpa using h1) (by simpa using h2))

theorem AVRs.append {ρ : List Loc} : ∀ {xs ys : List AV} {vs us : List Value}, AVRs ρ xs vs → AVRs ρ ys us → AVRs ρ (xs ++ ys) (vs ++ us)
  | _, _, _, _, .nil, h => h
  | _, _, _, _, .cons h0 h1, h => .cons h0 (AVRs.append h1 h)

theorem AVRs.map_lit {ρ : List Loc} : ∀ (l : List Value), AVRs ρ (l.map .lit) l
  | [] => .nil
  | v :: l => .cons (.lit v) (AVRs.map_lit l)

theorem AVR.liftV {ρ : List Loc} (v : Value) : AVR ρ (liftV v) v := by
  cases v <;> first | exact .lit _ | skip
  rename_i cs
  have := AVR.agg (ρ := ρ) (AVRs.map_lit cs.toList)
  simpa [Sx.liftV] using this

theorem AVR.cells {ρ : List Loc} {x : AV} {v : Value} (hs : x.sound = true) (h : AVR ρ x v) : AVRs ρ x.cells v.cells.toList := by
  cases h with
  | agg h => simpa [AV.cells, Value.cells] using h
  | any v => simp [AV.sound, AV.cell1] at hs
  | tuple h => simp [AV.sound, AV.cell1] at hs
  | lit v => cases v <;> simp [AV.sound, AV.cell1] at hs <;> exact .cons (.lit _) .nil
  | val v => cases v <;> simp [AV.sound, AV.cell1] at hs <;> exact .cons (.val _) .nil
  | int k n => exact .cons (.int k n) .nil
  | w64 x => exact .cons (.w64 x) .nil
  | bool b => exact .cons (.bool b) .nil
  | ptr h => exact .cons (.ptr h) .nil
  | slice h h1 h2 h3 => exact .cons (.slice h h1 h2 h3) .nil
  | vslS h h1 h2 h3 => exact .cons (.vslS h h1 h2 h3) .nil
  | vslN h => exact .cons (.vslN h) .nil
  | mp h => exact .cons (.mp h) .nil
  | func h h' => exact .cons (.func h h') .nil
  | iface h => exact .cons (.iface h) .nil

theorem AVR.one {ρ : List Loc} {x : AV} {v : Value} (hs : x.cell1 = true) (h : AVR ρ x v) : v.oneCell' = true := by
  cases h with
  | lit v => cases v <;> simp_all [AV.cell1, Value.oneCell']
  | val v => cases v <;> simp_all [AV.cell1, Value.oneCell']
  | _ => first | rfl | (simp [AV.cell1] at hs; done)

theorem AV.sound_cells {x : AV} (hs : x.sound = true) : ∀ c ∈ x.cells, c.cell1 = true := by
  intro c hc
  cases x <;> simp_all [AV.sound, AV.cells]

/-- What a row stands for. -/
structure BlkR (ρ : List Loc) (B : Gd) (w : World) (l : Loc) (k : Blk) : Prop where
  esz : l.esz = k.esz
  row : ∃ cur ty fr, w.heap[l.b]? = some (.cells cur ty fr) ∧
    (∀ (i : Nat) e, k.elems[i]? = some e → e.cells.length = k.esz ∧ e.sound = true ∧ ∀ (o : Nat) c, e.cells[o]? = some c → ∃ v, cur[l.off + i * k.esz + o]? = some v ∧ AVR (if k.flat then [] else ρ) c v) ∧
    (k.wr = true → ty = k.ty ∧ fr = (0, 0) ∧ l.off = 0 ∧ cur.size = l.cap * k.esz ∧ l.cap ≤ maxLen ∧ ¬ B l.b ∧ k.elems.length ≤ l.cap)

/-- They hold what they are to, and are guarded. -/
def GlobOK (B : Gd) (w : World) : Prop := ∀ p ∈ globs, B p.1 ∧ ∃ ty fr, w.heap[p.1]? = some (.cells p.2 ty fr)

theorem GlobOK.mono {B B' : Gd} {w : World} (h : GlobOK B w) (hb : Gd.le B B') : GlobOK B' w := fun p hp => ⟨hb _ (h p hp).1, (h p hp).2⟩

/-- The blocks that a place takes; 'o': those of the objects. -/
def Owns (o : Nat → List Nat) (h : Hp) (ρ : List Loc) (r b : Nat) : Prop := ∃ l, At ρ r l ∧ ((∃ k, h.row r = some k ∧ b = l.b) ∨ (∃ k, h.obj r = some k ∧ b ∈ o r))

/-- A block of raw memory. -/
structure MB where
  b : Nat
  ty : TypeId
  cs : List AV

/-- As an object's state. -/
def memE (m : List MB) : List AV := m.map fun x => M.mblk x.b x.ty x.cs

/-- Which raw memory stands for a state: for a state that is raw memory, that alone. -/
def rawO (ty : TypeId) (es : List AV) (m : List MB) : Prop := (ty = memTy ∧ es = memE m) ∨ rawI ty es (memE m)

structure RawR (m : List MB) (b : Nat) (own : List Nat) (w : World) : Prop where
  nd : (m.map MB.b).Nodup
  is : ∀ x ∈ m, x.b ∈ own ∧ ∃ cur, w.heap[x.b]? = some (.cells cur x.ty (0, 0)) ∧ AVRs [] x.cs (cur.toList.take x.cs.length)
  hd : ∃ x, m[0]? = some x ∧ x.b = b

/-- A store's entry: what the slice holds stands in memory. -/
def FrzS (own : List Nat) (w : World) (e : AV) : Prop := ∃ (u : Value) (z : Nat) (es : List AV), e = M.fzE u z es ∧ 0 < z ∧
  ((u = .slice none 0 0 ∧ es = []) ∨ ∃ (l : Loc) (a : Addr) (c : Nat), l.ph = false ∧ u = .slice (some a) es.length c ∧ es.length ≤ c ∧ c ≤ l.cap ∧ (0 < c → a = ⟨l.b, l.off, none⟩) ∧ l.b ∈ own ∧ BlkR [] (fun _ => False) w l ⟨false, 0, z, true, es⟩)

/-- An object of type ty, in state es, begins at block b; its blocks are among 'own'. -/
inductive ObjR : TypeId → List AV → Nat → List Nat → World → Prop
  | mk {ty : TypeId} {es : List AV} {b : Nat} {own : List Nat} {w : World} (h : Hp) (ρ : List Loc) (o : Nat → List Nat) :
      reprO ty es h → ρ.length = h.length →
      (∀ r k l, h.row r = some k → At ρ r l → k.wr = true ∧ BlkR ρ (fun _ => False) w l k) →
      (∀ r k l, h.obj r = some k → At ρ r l → k.wr = true ∧ l.off = 0) → (∀ r k, h.obj r = some k → ∃ l, At ρ r l) → (∀ r k l, h.obj r = some k → At ρ r l → ObjR k.ty k.elems l.b (o r) w) →
      (∀ r r' b', r ≠ r' → Owns o h ρ r b' → ¬ Owns o h ρ r' b') → (∀ r b', Owns o h ρ r b' → b' ∈ own ∧ b' < w.heap.size) →
      (∃ l, At ρ 0 l ∧ l.off = 0 ∧ l.b = b) → ObjR ty es b own w
  | raw {ty : TypeId} {es : List AV} {b : Nat} {own : List Nat} {w : World} (m : List MB) : rawO ty es m → RawR m b own w → ObjR ty es b own w
  | ext {ty : TypeId} {es : List AV} {b : Nat} {own : List Nat} {w : World} : extI ty es b own w → ObjR ty es b own w
  | frz {es : List AV} {b : Nat} {own : List Nat} {w : World} : (∀ e ∈ es, FrzS own w e) → (∀ x ∈ own, ∃ cur ty fr, w.heap[x]? = some (.cells cur ty fr)) → ObjR frzTy es b own w

theorem fN_eq (n : Nat) (K : Nat → Prop) : fN n K = K n := by cases n <;> rfl
theorem fAV_eq (x : AV) (K : AV → Prop) : fAV x K = K x := by cases x <;> rfl
theorem fT_eq : ∀ (l : List AV) (K : List AV → Prop), fT l K = K l
  | [], _ => rfl
  | x :: l, K => by rw [fT, fAV_eq, fT_eq l]
theorem fB_eq : ∀ (l : List Bool) (K : List Bool → Prop), fB l K = K l
  | [], _ => rfl
  | true :: l, K => by rw [fB, fB_eq l]
  | false :: l, K => by rw [fB, fB_eq l]
theorem fA_eq (a : Array Bool) (K : Array Bool → Prop) : fA a K = K a := by cases a; exact fB_eq _ _
theorem fO_eq (o : Oper) (K : Oper → Prop) : fO o K = K o := by cases o; rfl
theorem fH_eq : ∀ (h : Hp) (K : Hp → Prop), fH h K = K h
  | [], _ => rfl
  | none :: h, K => by rw [fH, fH_eq h]
  | some ⟨_, _, _, _, _⟩ :: h, K => by rw [fH, fH_eq h]
theorem fSt_eq (st : St) (K : St → Prop) : fSt st K = K st := by unfold fSt; rw [fT_eq, fH_eq]

/-- Guarded blocks are as they were. -/
structure BelB (B : Gd) (w w' : World) : Prop where
  os : w'.os = w.os
  tape : w'.tape = w.tape
  output : w'.output = w.output
  size : w.heap.size ≤ w'.heap.size
  block : ∀ j, B j → w'.heap[j]? = w.heap[j]?

/-- And no draw is taken back. -/
structure Bel (B : Gd) (w w' : World) : Prop extends BelB B w w' where
  drawn : strict = true → w.drawn ≤ w'.drawn

theorem Bel.refl (B : Gd) (w : World) : Bel B w w := ⟨⟨rfl, rfl, rfl, Nat.le_refl _, fun _ _ => rfl⟩, fun _ => Nat.le_refl _⟩
theorem Bel.trans {B : Gd} {a b c : World} (h : Bel B a b) (k : Bel B b c) : Bel B a c :=
  ⟨⟨k.os.trans h.os, k.tape.trans h.tape, k.output.trans h.output, Nat.le_trans h.size k.size, fun i hi => (k.block i hi).trans (h.block i hi)⟩, fun e => Nat.le_trans (h.drawn e) (k.drawn e)⟩
theorem Bel.mono {B B' : Gd} {w w' : World} (h : Bel B w w') (hB : Gd.le B' B) : Bel B' w w' := ⟨⟨h.os, h.tape, h.output, h.size, fun j hj => h.block j (hB j hj)⟩, h.drawn⟩
theorem Bel.drew {B : Gd} {a w : World} (h : Bel B a w) : Bel B a w.drew := ⟨⟨h.os, h.tape, h.output, h.size, h.block⟩, fun e => Nat.le_succ_of_le (h.drawn e)⟩
theorem Bel.below {n : Nat} {w w' : World} (h : Bel (bl n) w w') : Below n w w' := ⟨h.os, h.tape, h.output, h.size, fun j hj => h.block j hj⟩

theorem GlobOK.below {B : Gd} {w w' : World} (h : GlobOK B w) (hb : Bel B w w') : GlobOK B w' := fun p hp => ⟨(h p hp).1, by
  obtain ⟨h1, ty, fr, h2⟩ := h p hp
  exact ⟨ty, fr, by rw [hb.block _ h1]; exact h2⟩⟩

/-- The objects of a heap; 'o': the blocks of each. -/
structure ObjsO (o : Nat → List Nat) (B : Gd) (ρ : List Loc) (h : Hp) (w : World) : Prop where
  is : ∀ r k l, h.obj r = some k → At ρ r l → ObjR k.ty k.elems l.b (o r) w ∧ (∀ b ∈ o r, b < w.heap.size) ∧ (k.wr = true → ∀ b ∈ o r, ¬ B b) ∧ l.off = 0
  row : ∀ r r' k k' l l', h.obj r = some k → h.row r' = some k' → At ρ r l → At ρ r' l' → (k.ty ≠ frzTy ∨ k'.wr = true) → l'.b ∉ o r
  obj : ∀ r r' k k' l l', h.obj r = some k → h.obj r' = some k' → r ≠ r' → At ρ r l → At ρ r' l' → ∀ b ∈ o r, b ∉ o r'
  here : ∀ r k, h.obj r = some k → ∃ l, At ρ r l

def ObjsR (B : Gd) (ρ : List Loc) (h : Hp) (w : World) : Prop := ∃ o, ObjsO o B ρ h w

structure HpR (B : Gd) (ρ : List Loc) (h : Hp) (w : World) : Prop where
  len : ρ.length = h.length
  base : Gd.le B (bl w.heap.size)
  blk : ∀ r k l, h.row r = some k → At ρ r l → BlkR ρ B w l k
  sep : ∀ r r' k k' l l', h.row r = some k → h.row r' = some k' → k.wr = true → r ≠ r' → At ρ r l → At ρ r' l' → l.b ≠ l'.b
  glob : GlobOK B w
  objs : ObjsR B ρ h w

structure TmpsR (ρ : List Loc) (ts : List AV) (a : Act) : Prop where
  len : ts.length = a.tmps.size
  get : ∀ (i : Nat) x, ts[i]? = some x → ∃ v, a.tmps[i]? = some v ∧ AVR ρ x v

theorem TmpsR.op {ρ : List Loc} {st : St} {a : Act} (h : TmpsR ρ st.t a) (x : Operand) : AVR ρ (st.op x) (a.eval x) := by
  cases x with
  | tmp t =>
    simp only [St.op, Act.eval]
    rcases hx : st.t[t]? with _ | y
    · simp only [List.getD_eq_getElem?_getD, hx]; exact .any _
    · obtain ⟨v, hv, hr⟩ := h.get t y hx
      simp only [List.getD_eq_getElem?_getD, hx, Option.getD_some, Array.getD_eq_getD_getElem?, hv]; exact hr
  | const v => exact .liftV v
  | global g => exact .val _
  | func f => exact AVR.func (ρ := ρ) (fn := .func f) .nil .nil

theorem TmpsR.put {ρ : List Loc} {ts : List AV} {a : Act} (h : TmpsR ρ ts a) (d : Nat) {x : AV} {v : Value} (hr : AVR ρ x v) :
    TmpsR ρ (ts.set d x) { a with tmps := a.tmps.setIfInBounds d v } := by
  refine ⟨by simp [h.len], fun i y hy => ?_⟩
  by_cases hd : d = i
  · subst hd
    have hlt : d < ts.length := by simpa using (List.getElem?_eq_some_iff.1 hy).1
    simp [hlt] at hy
    subst hy
    exact ⟨v, by simp [← h.len, hlt], hr⟩
  · rw [List.getElem?_set_ne hd] at hy
    obtain ⟨u, hu, hru⟩ := h.get i y hy
    exact ⟨u, by simpa [Array.getElem?_setIfInBounds_ne hd] using hu, hru⟩

theorem TmpsR.app {ρ : List Loc} (ρ' : List Loc) {ts : List AV} {a : Act} (h : TmpsR ρ ts a) : TmpsR (ρ ++ ρ') ts a :=
  ⟨h.len, fun i x hx => let ⟨v, hv, hr⟩ := h.get i x hx; ⟨v, hv, hr.app ρ'⟩⟩

theorem TmpsR.ops {ρ : List Loc} {st : St} {a : Act} (h : TmpsR ρ st.t a) : ∀ (l : List Operand), AVRs ρ (l.map st.op) (l.map a.eval)
  | [] => .nil
  | x :: l => .cons (h.op x) (h.ops l)

theorem asInt_rel {ρ : List Loc} {x : AV} {v : Value} {s : Bool} {k : IntKind} {n : Int} (h : AVR ρ x v) (hx : x.asInt = some (s, k, n)) : v = .int k n := by
  cases h with
  | lit v => cases v <;> simp [AV.asInt] at hx; obtain ⟨_, rfl, rfl⟩ := hx; rfl
  | int k n => simp [AV.asInt] at hx; obtain ⟨_, rfl, rfl⟩ := hx; rfl
  | w64 x => simp [AV.asInt] at hx; obtain ⟨_, rfl, rfl⟩ := hx; rfl
  | _ => simp [AV.asInt] at hx

theorem toNat_ofInt {n : Int} (h0 : 0 ≤ n) (h1 : n < 18446744073709551616) : ((BitVec.ofInt 64 n).toNat : Int) = n := by
  rw [BitVec.toNat_ofInt]
  simp only [show ((2 ^ 64 : Nat) : Int) = 18446744073709551616 from rfl]
  rw [Int.emod_eq_of_lt h0 h1]
  omega

theorem asW_rel {ρ : List Loc} {x : AV} {v : Value} {s : Bool} {b : BitVec 64} (h : AVR ρ x v) (hx : x.asW = some (s, b)) : v = .int .u64 (b.toNat : Int) := by
  cases h with
  | w64 x => simp [AV.asW] at hx; obtain ⟨_, rfl⟩ := hx; rfl
  | lit v =>
    cases v <;> simp [AV.asW] at hx
    rename_i k n
    cases k <;> simp at hx
    split at hx
    · rename_i hd
      simp at hd
      simp at hx
      obtain ⟨_, rfl⟩ := hx
      rw [toNat_ofInt hd.1 hd.2]
    · simp at hx
  | _ => simp [AV.asW] at hx

theorem asBool_rel {ρ : List Loc} {x : AV} {v : Value} {s : Bool} {b : Bool} (h : AVR ρ x v) (hx : x.asBool = some (s, b)) : v = .bool b := by
  cases h with
  | lit v => cases v <;> simp [AV.asBool] at hx; obtain ⟨_, rfl⟩ := hx; rfl
  | bool b => simp [AV.asBool] at hx; obtain ⟨_, rfl⟩ := hx; rfl
  | _ => simp [AV.asBool] at hx

theorem asStr_rel {ρ : List Loc} {x : AV} {v : Value} {s : Bool} {b : ByteArray} (h : AVR ρ x v) (hx : x.asStr = some (s, b)) : v = .string b := by
  cases h with
  | lit v => cases v <;> simp [AV.asStr] at hx; obtain ⟨_, rfl⟩ := hx; rfl
  | val v => cases v <;> simp [AV.asStr] at hx; obtain ⟨_, rfl⟩ := hx; rfl
  | _ => simp [AV.asStr] at hx

theorem mkInt_rel {ρ : List Loc} (s : Bool) (k : IntKind) (n : Int) : AVR ρ (mkInt s k n) (.int k n) := by cases s <;> simp [mkInt] <;> constructor
theorem mkStr_rel {ρ : List Loc} (s : Bool) (b : ByteArray) : AVR ρ (mkStr s b) (.string b) := by cases s <;> simp [mkStr] <;> constructor
theorem mkBool_rel {ρ : List Loc} (s : Bool) (b : Bool) : AVR ρ (mkBool s b) (.bool b) := by cases s <;> simp [mkBool] <;> constructor

theorem need_iff {s : Bool} {p : Prop} [Decidable p] {K : Prop} (h : need s p K) : p ∧ K := by
  cases s
  · exact h
  · simp only [need] at h; split at h
    · rename_i hp; exact ⟨of_decide_eq_true hp, h⟩
    · exact h.elim

theorem test_iff {x : AV} {hs : List Hint} {K : Bool → List Hint → Prop} (h : test x hs K) : ∃ s b hs', x.asBool = some (s, b) ∧ K b hs' := by
  unfold test at h
  split at h
  · rename_i b hb; exact ⟨_, b, hs, hb, h⟩
  · rename_i b hb
    split at h
    · obtain ⟨rfl, hk⟩ := h; exact ⟨_, _, _, hb, hk⟩
    · cases hp : b
      · exact ⟨_, _, _, hb.trans (by rw [hp]), h.2 hp⟩
      · exact ⟨_, _, _, hb.trans (by rw [hp]), h.1 hp⟩
    · exact h.elim
  · exact h.elim

theorem withIx_iff {x : AV} {len : Nat} {sl : Bool} {hs : List Hint} {K : Nat → Bool → List Hint → Prop} (h : withIx x len sl hs K) :
    ∃ s k n c hs', x.asInt = some (s, k, n) ∧ 0 ≤ n ∧ n < (len : Int) ∧ K n.toNat c hs' := by
  unfold withIx at h
  split at h
  · rename_i k n hx
    obtain ⟨⟨h0, h1⟩, hk⟩ := need_iff h
    exact ⟨_, k, n, sl, hs, hx, h0, h1, hk⟩
  · rename_i k n hx
    split at h
    · obtain ⟨rfl, h⟩ := h
      obtain ⟨h1, hk⟩ := need_iff h
      exact ⟨_, k, _, _, _, hx, by omega, by omega, by simpa using hk⟩
    · obtain ⟨⟨h0, h1⟩, hk⟩ := h
      exact ⟨_, k, n, _, _, hx, h0, h1, hk⟩
    · exact h.elim
  · exact h.elim

theorem canon1_rel {ρ : List Loc} {x : AV} {v : Value} (h : AVR ρ x v) : AVR ρ (canon1 x) v := by
  unfold canon1
  split
  · rename_i n
    split
    · rename_i hd
      simp at hd
      cases h
      have := AVR.w64 (ρ := ρ) (BitVec.ofInt 64 n)
      rwa [toNat_ofInt hd.1 hd.2] at this
    · exact h
  · cases h; exact .int _ _
  · cases h; exact .bool _
  · cases h; exact .val _
  · cases h; exact .val _
  · exact h

theorem rawC_rel {ρ : List Loc} {x : AV} {v : Value} (h : AVR ρ x v) : AVR ρ (rawC x) v := canon1_rel h

theorem canon1_rels {ρ : List Loc} : ∀ {xs : List AV} {vs : List Value}, AVRs ρ xs vs → AVRs ρ (xs.map canon1) vs
  | _, _, .nil => .nil
  | _, _, .cons h0 h1 => .cons (canon1_rel h0) (canon1_rels h1)

theorem canon_rel {ρ : List Loc} {x : AV} {v : Value} (h : AVR ρ x v) : AVR ρ (canon x) v := by
  unfold canon
  split
  · cases h with | agg h => exact .agg (canon1_rels h)
  · exact canon1_rel h

theorem canon_rels {ρ : List Loc} : ∀ {xs : List AV} {vs : List Value}, AVRs ρ xs vs → AVRs ρ (xs.map canon) vs
  | _, _, .nil => .nil
  | _, _, .cons h0 h1 => .cons (canon_rel h0) (canon_rels h1)

theorem canon2_rel {ρ : List Loc} {x : AV} {v : Value} (h : AVR ρ x v) : AVR ρ (canon2 x) v := by
  unfold canon2
  split
  · cases h with | tuple h => exact .tuple (canon_rels h)
  · exact canon_rel h

theorem canon1_cell1 (x : AV) : (canon1 x).cell1 = x.cell1 := by
  unfold canon1
  split <;> first | rfl | skip
  split <;> rfl

theorem canon1_cells {x : AV} (h : ∀ cs, x ≠ .agg cs) : (canon1 x).cells = [canon1 x] := by
  unfold canon1
  split <;> first | rfl | skip
  · split <;> rfl
  · cases x <;> first | rfl | exact absurd rfl (h _)

theorem canon_cells (x : AV) : (canon x).cells = x.cells.map canon1 := by
  unfold canon
  split
  · rfl
  · rename_i h
    rw [canon1_cells h]
    cases x <;> first | rfl | exact absurd rfl (h _)

theorem canon1_nagg {x : AV} (h : ∀ cs, x ≠ .agg cs) : ∀ cs, canon1 x ≠ .agg cs := by
  intro cs hc
  have e := canon1_cells h
  rw [hc] at e
  have e' : cs = [AV.agg cs] := e
  have := congrArg (fun l : List AV => SizeOf.sizeOf l) e'
  simp at this
  omega

theorem canon_sound (x : AV) : (canon x).sound = x.sound := by
  unfold canon
  split
  · rename_i cs
    simp only [AV.sound, List.all_map]
    congr 1
    funext c
    exact canon1_cell1 c
  · rename_i h
    have e : ∀ y : AV, (∀ cs, y ≠ .agg cs) → y.sound = y.cell1 := fun y hy => by cases y <;> first | rfl | exact absurd rfl (hy _)
    rw [e x h, e (canon1 x) (canon1_nagg h), canon1_cell1]

end Go.Sx
