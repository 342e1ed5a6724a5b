/-
  Texts in one: L7M L7N L7P L7T L7U.
-/
import Derived.Test.YtfpofdlpgocnlaaL7a
import Derived.Test.YtfpofdlpgocnlaaTr
import Derived.Test.YtfpofdlpgocnlaaSxZ
import Derived.Test.YtfpofdlpgocnlaaL6b

section
/-
  Layer 7: trees of routes: what stands in them, in order, and along the way of an address. Plain mathematics over the contracts' own terms.
-/
namespace Go.Sx.M
open Go.Proofs.Ytfpofdlpgocnlaa.L1

/-- The routes of a tree, behind k bits. -/
def Tr.list : Tr → BitVec 64 → BitVec 64 → Nat → List Ro
  | .nil, _, _, _ => []
  | .nd _ act l r, a, b, k => (if act = 0 then [] else [⟨⟨a, b, (k : Int)⟩, act⟩]) ++ (l.list a b (k + 1) ++ r.list (onA a k) (onB b k) (k + 1))

theorem Tr.rows_eq : ∀ (t : Tr) (a b : BitVec 64) (k : Nat), t.rows a b k = (t.list a b k).map roE
  | .nil, _, _, _ => rfl
  | .nd _ act l r, a, b, k => by
    unfold Tr.rows Tr.list
    rw [List.map_append, List.map_append, l.rows_eq, r.rows_eq]
    congr 1
    split <;> rfl

def Tr.act : Tr → Int
  | .nil => 0
  | .nd _ a _ _ => a

/-- The tree below, n bits on from bit k. -/
def Tr.sub (f : Nat → Bool) : Nat → Nat → Tr → Tr
  | _, 0, t => t
  | _, _ + 1, .nil => .nil
  | k, n + 1, .nd _ _ l r => Tr.sub f (k + 1) n (if f k then r else l)

theorem Tr.sub_nil (f : Nat → Bool) (k : Nat) : ∀ n, Tr.sub f k n .nil = .nil
  | 0 => rfl
  | _ + 1 => rfl

theorem Tr.sub_congr {f g : Nat → Bool} : ∀ (n k : Nat) (t : Tr), (∀ i, k ≤ i → i < k + n → f i = g i) → Tr.sub f k n t = Tr.sub g k n t
  | 0, _, _, _ => rfl
  | _ + 1, _, .nil, _ => rfl
  | n + 1, k, .nd _ _ l r, h => by
    unfold Tr.sub
    rw [h k (Nat.le_refl _) (by omega)]
    exact Tr.sub_congr n (k + 1) _ fun i h1 h2 => h i (by omega) (by omega)

theorem Tr.sub_add (f : Nat → Bool) : ∀ (n k m : Nat) (t : Tr), Tr.sub f k (n + m) t = Tr.sub f (k + n) m (Tr.sub f k n t)
  | 0, k, m, t => by simp [Tr.sub]
  | n + 1, k, m, .nil => by rw [Tr.sub_nil, Tr.sub_nil, Tr.sub_nil]
  | n + 1, k, m, .nd q a l r => by
    rw [show n + 1 + m = (n + m) + 1 by omega]
    show Tr.sub f (k + 1) (n + m) _ = Tr.sub f (k + (n + 1)) m (Tr.sub f (k + 1) n _)
    rw [Tr.sub_add f n (k + 1) m, show k + 1 + n = k + (n + 1) by omega]

theorem Tr.sub_succ (f : Nat → Bool) (k n : Nat) (t : Tr) : Tr.sub f k (n + 1) t = Tr.sub f (k + n) 1 (Tr.sub f k n t) := Tr.sub_add f n k 1 t

/-- No node is deeper than an address is long. -/
def Tr.ok : Nat → Tr → Prop
  | _, .nil => True
  | k, .nd _ _ l r => k ≤ 128 ∧ l.ok (k + 1) ∧ r.ok (k + 1)

theorem Tr.ok_sub {f : Nat → Bool} : ∀ (n k : Nat) (t : Tr), t.ok k → (Tr.sub f k n t).ok (k + n)
  | 0, _, _, h => h
  | n + 1, k, .nil, _ => trivial
  | n + 1, k, .nd _ _ l r, h => by
    have := Tr.ok_sub (f := f) n (k + 1) (if f k then r else l) (by split; exact h.2.2; exact h.2.1)
    rw [show k + (n + 1) = k + 1 + n by omega]
    exact this

theorem Tr.ok_nil {k : Nat} (hk : 128 < k) {t : Tr} (h : t.ok k) : t = .nil := by
  cases t with
  | nil => rfl
  | nd => exact absurd h.1 (by omega)

/-- No bit is set from k on. -/
def zFrom (a b : BitVec 64) (k : Nat) : Prop := ∀ i, i < 128 → k ≤ i → bitAt a b i = false

theorem bit_on (a b : BitVec 64) (k : Nat) {i : Nat} (hi : i < 128) : bitAt (onA a k) (onB b k) i = if i = k then true else bitAt a b i := by
  have := bitAt_put a b (k : Int) true hi
  unfold onA onB
  rw [this]
  by_cases h : i = k
  · rw [if_pos h, if_pos (by omega)]
  · rw [if_neg h, if_neg (by omega)]

theorem zFrom.succ {a b : BitVec 64} {k : Nat} (h : zFrom a b k) : zFrom a b (k + 1) := fun i hi hk => h i hi (by omega)
theorem zFrom.on {a b : BitVec 64} {k : Nat} (h : zFrom a b k) : zFrom (onA a k) (onB b k) (k + 1) := fun i hi hk => by
  rw [bit_on _ _ _ hi, if_neg (by omega)]; exact h i hi (by omega)

/-- What stands in a tree. -/
theorem Tr.mem_list : ∀ (t : Tr) {a b : BitVec 64} {k : Nat}, t.ok k → zFrom a b k → ∀ x : Ro, x ∈ t.list a b k ↔
    ∃ n, x.p.len = ((k + n : Nat) : Int) ∧ k + n ≤ 128 ∧ (∀ i, i < 128 → i < k → bitAt x.p.a x.p.b i = bitAt a b i) ∧ zFrom x.p.a x.p.b (k + n) ∧ (Tr.sub (bitAt x.p.a x.p.b) k n t).act = x.act ∧ x.act ≠ 0
  | .nil, a, b, k, _, _, x => by
    refine ⟨fun h => (by cases h), fun ⟨n, _, _, _, _, h, h0⟩ => ?_⟩
    rw [Tr.sub_nil] at h
    exact absurd h.symm h0
  | .nd q act l r, a, b, k, hok, hz, x => by
    obtain ⟨h1, hl, hr⟩ := hok
    have il := l.mem_list hl hz.succ x
    have ir := r.mem_list hr hz.on x
    unfold Tr.list
    rw [List.mem_append, List.mem_append, il, ir]
    constructor
    · rintro (h | ⟨n, e1, e2, e3, e4, e5, e6⟩ | ⟨n, e1, e2, e3, e4, e5, e6⟩)
      · split at h
        · cases h
        · rename_i h0
          have h := List.mem_singleton.1 h
          subst h
          exact ⟨0, by simp, by omega, fun _ _ _ => rfl, hz, rfl, h0⟩
      · refine ⟨n + 1, by rw [e1]; congr 1; omega, by omega, fun i hi hk => e3 i hi (by omega), by rw [show k + (n + 1) = k + 1 + n by omega]; exact e4, ?_, e6⟩
        have hb : bitAt x.p.a x.p.b k = false := by rw [e3 k (by omega) (by omega)]; exact hz k (by omega) (Nat.le_refl _)
        unfold Tr.sub
        rw [hb]
        exact e5
      · refine ⟨n + 1, by rw [e1]; congr 1; omega, by omega, fun i hi hk => by rw [e3 i hi (by omega), bit_on _ _ _ hi, if_neg (by omega)], by rw [show k + (n + 1) = k + 1 + n by omega]; exact e4, ?_, e6⟩
        have hb : bitAt x.p.a x.p.b k = true := by rw [e3 k (by omega) (by omega), bit_on _ _ _ (by omega), if_pos rfl]
        unfold Tr.sub
        rw [hb]
        exact e5
    · rintro ⟨n, e1, e2, e3, e4, e5, e6⟩
      cases n with
      | zero =>
        left
        have e5 : act = x.act := e5
        rw [if_neg (by rw [e5]; exact e6)]
        refine List.mem_singleton.2 ?_
        obtain ⟨g1, g2⟩ := bitAt_eq (a := x.p.a) (b := x.p.b) (c := a) (d := b) fun i hi => by
          by_cases hk : i < k
          · exact e3 i hi hk
          · rw [hz i hi (by omega)]; exact e4 i hi (by omega)
        obtain ⟨⟨xa, xb, xl⟩, xact⟩ := x
        dsimp only at *
        subst g1; subst g2; subst e5
        rw [show xl = ((k : Nat) : Int) by rw [e1]; simp]
      | succ n =>
        right
        have e5 : (Tr.sub (bitAt x.p.a x.p.b) (k + 1) n (if bitAt x.p.a x.p.b k then r else l)).act = x.act := e5
        cases hb : bitAt x.p.a x.p.b k with
        | false =>
          left
          rw [hb] at e5
          refine ⟨n, by rw [e1]; congr 1; omega, by omega, fun i hi hk => ?_, by rw [show k + 1 + n = k + (n + 1) by omega]; exact e4, e5, e6⟩
          by_cases hik : i = k
          · subst hik; rw [hb]; exact (hz i hi (Nat.le_refl _)).symm
          · exact e3 i hi (by omega)
        | true =>
          right
          rw [hb] at e5
          refine ⟨n, by rw [e1]; congr 1; omega, by omega, fun i hi hk => ?_, by rw [show k + 1 + n = k + (n + 1) by omega]; exact e4, e5, e6⟩
          rw [bit_on _ _ _ hi]
          by_cases hik : i = k
          · subst hik; rw [hb, if_pos rfl]
          · rw [if_neg hik]; exact e3 i hi (by omega)

/-- It stands there in order. -/
theorem Tr.list_sorted : ∀ (t : Tr) {a b : BitVec 64} {k : Nat}, t.ok k → zFrom a b k → (t.list a b k).Pairwise fun x y => cpP x.p y.p < 0
  | .nil, _, _, _, _, _ => List.Pairwise.nil
  | .nd q act l r, a, b, k, hok, hz => by
    obtain ⟨h1, hl, hr⟩ := hok
    unfold Tr.list
    have below : ∀ y : Ro, (∃ n, y.p.len = ((k + 1 + n : Nat) : Int)) → (∀ i, i < 128 → i < k → bitAt y.p.a y.p.b i = bitAt a b i) → cpP ⟨a, b, (k : Int)⟩ y.p < 0 := by
      rintro y ⟨n, e1⟩ e2
      refine cpP_lt.2 ?_
      have := V_sub (a := a) (b := b) (c := y.p.a) (d := y.p.b) fun i hi ht => by
        by_cases hk : i < k
        · rw [e2 i hi hk]; exact ht
        · rw [hz i hi (by omega)] at ht; cases ht
      rcases Nat.lt_or_eq_of_le this with h | h
      · exact .inl h
      · exact .inr ⟨h, by rw [e1]; show (k : Int) < _; omega⟩
    refine List.pairwise_append.2 ⟨by split; exact .nil; exact List.pairwise_singleton _ _, List.pairwise_append.2 ⟨l.list_sorted hl hz.succ, r.list_sorted hr hz.on, fun x hx y hy => ?_⟩, fun x hx y hy => ?_⟩
    · obtain ⟨n, _, g0, g1, _⟩ := (l.mem_list hl hz.succ x).1 hx
      obtain ⟨m, _, _, g2, _⟩ := (r.mem_list hr hz.on y).1 hy
      refine cpP_lt.2 (.inl (V_less (n := k) (by omega) (fun i hi => ?_) ?_ ?_))
      · rw [g1 i (by omega) (by omega), g2 i (by omega) (by omega), bit_on _ _ _ (by omega), if_neg (by omega)]
      · rw [g1 k (by omega) (by omega)]; exact hz k (by omega) (Nat.le_refl _)
      · rw [g2 k (by omega) (by omega), bit_on _ _ _ (by omega), if_pos rfl]
    · split at hx
      · cases hx
      · have hx := List.mem_singleton.1 hx
        subst hx
        rcases List.mem_append.1 hy with hy | hy
        · obtain ⟨n, e1, _, e2, _⟩ := (l.mem_list hl hz.succ y).1 hy
          exact below y ⟨n, e1⟩ fun i hi hk => e2 i hi (by omega)
        · obtain ⟨n, e1, _, e2, _⟩ := (r.mem_list hr hz.on y).1 hy
          exact below y ⟨n, e1⟩ fun i hi hk => by rw [e2 i hi (by omega), bit_on _ _ _ hi, if_neg (by omega)]

/-- What stands at a prefix's place. -/
theorem Tr.mem_at {t : Tr} (hok : t.ok 0) {p : Pf} {v : Int} (h0 : 0 ≤ p.len) (h1 : p.len ≤ 128) (hz : zFrom p.a p.b p.len.toNat) : (⟨p, v⟩ : Ro) ∈ t.list 0#64 0#64 0 ↔ (Tr.sub (bitAt p.a p.b) 0 p.len.toNat t).act = v ∧ v ≠ 0 := by
  rw [t.mem_list hok (fun i _ _ => bitAt_zero i)]
  constructor
  · rintro ⟨n, e1, _, _, _, e5, e6⟩
    have e1 : p.len = ((0 + n : Nat) : Int) := e1
    have : n = p.len.toNat := by omega
    subst this
    exact ⟨e5, e6⟩
  · rintro ⟨e5, e6⟩
    exact ⟨p.len.toNat, by show p.len = _; omega, by omega, fun i _ hi => absurd hi (Nat.not_lt_zero _), by rw [Nat.zero_add]; exact hz, e5, e6⟩

/-- Each node leads to a route. -/
theorem Tr.full_some : ∀ (t : Tr) {a b : BitVec 64} {k : Nat}, t.full → t ≠ .nil → ∃ x ∈ t.list a b k, (k : Int) ≤ x.p.len
  | .nil, _, _, _, _, h => absurd rfl h
  | .nd q act l r, a, b, k, hf, _ => by
    obtain ⟨h0, h1, h2⟩ := hf
    unfold Tr.list
    by_cases ha : act = 0
    · rcases h0 ha with h | h
      · obtain ⟨x, hx, he⟩ := l.full_some (a := a) (b := b) (k := k + 1) h1 h
        exact ⟨x, List.mem_append_right _ (List.mem_append_left _ hx), by omega⟩
      · obtain ⟨x, hx, he⟩ := r.full_some (a := onA a k) (b := onB b k) (k := k + 1) h2 h
        exact ⟨x, List.mem_append_right _ (List.mem_append_right _ hx), by omega⟩
    · exact ⟨_, List.mem_append_left _ (by rw [if_neg ha]; exact List.mem_singleton.2 rfl), Int.le_refl _⟩

theorem Tr.ok_of : ∀ (t : Tr) {a b : BitVec 64} {k : Nat}, t.full → (∀ x ∈ t.list a b k, x.p.len ≤ 128) → t.ok k
  | .nil, _, _, _, _, _ => trivial
  | .nd q act l r, a, b, k, hf, hx => by
    obtain ⟨x, hm, he⟩ := (Tr.nd q act l r).full_some (a := a) (b := b) (k := k) hf (fun h => by cases h)
    have := hx x hm
    unfold Tr.list at hx
    exact ⟨by omega, l.ok_of hf.2.1 fun y hy => hx y (List.mem_append_right _ (List.mem_append_left _ hy)), r.ok_of hf.2.2 fun y hy => hx y (List.mem_append_right _ (List.mem_append_right _ hy))⟩

end Go.Sx.M
end

section
/-
  Layer 7: raw memory that holds a tree: what is read of it, what is left when it is written.
-/
namespace Go.Sx.M
open Go.Proofs.Ytfpofdlpgocnlaa.L1

theorem shift_some (q : Addr) (h : q.spot = none) (n : Nat) : shift (some q) n = some ⟨q.block, q.off + n, none⟩ := by
  obtain ⟨b, o, s⟩ := q
  cases h
  rfl

theorem sure_some' {q : Addr} (h : sure (some q) = true) : q.spot = none := by
  obtain ⟨b, o, s⟩ := q
  cases s with
  | none => rfl
  | some _ => cases h

/-- A node's cells. -/
theorem node_cells {m : List AV} {q : Addr} {x y z : AV} (hs : sure (some q) = true) (h : mread m (some q) true 3 = some (.agg [x, y, z])) :
    ∃ cs, mget m q.block = some cs ∧ q.off + 3 ≤ cs.length ∧ (cs.drop q.off).take 3 = [x, y, z] := by
  obtain ⟨b, o, s⟩ := q
  cases (sure_some' hs : s = none)
  unfold mread at h
  dsimp only at h
  split at h
  · rename_i cs hc
    split at h
    · rename_i hl
      have h := Option.some.inj h
      exact ⟨cs, hc, hl, AV.agg.inj h⟩
    · cases h
  · cases h

theorem get_of_take {cs : List AV} {o : Nat} {x y z : AV} (h : (cs.drop o).take 3 = [x, y, z]) : cs[o]? = some x ∧ cs[o + 1]? = some y ∧ cs[o + 2]? = some z := by
  have g : ∀ i, i < 3 → cs[o + i]? = [x, y, z][i]? := fun i hi => by
    rw [← h, List.getElem?_take, if_pos hi, List.getElem?_drop]
  exact ⟨g 0 (by omega), g 1 (by omega), g 2 (by omega)⟩

/-- What is read at a node: its pointers, its number. -/
theorem node_read {m : List AV} {q : Addr} {x y z : AV} (hs : sure (some q) = true) (h : mread m (some q) true 3 = some (.agg [x, y, z])) :
    mread m (shift (some q) 0) false 1 = some x ∧ mread m (shift (some q) 1) false 1 = some y ∧ mread m (shift (some q) 2) false 1 = some z := by
  obtain ⟨cs, h1, h2, h3⟩ := node_cells hs h
  obtain ⟨g0, g1, g2⟩ := get_of_take h3
  have e := sure_some' hs
  refine ⟨?_, ?_, ?_⟩ <;> rw [shift_some _ e] <;> unfold mread <;> simp only [h1]
  · exact g0
  · exact g1
  · exact g2

theorem shift_shift (q : Option Addr) (i j : Nat) : shift (shift q i) j = shift q (i + j) := by
  cases q with
  | none => rfl
  | some q =>
    obtain ⟨b, o, s⟩ := q
    cases s with
    | none => simp [shift, Nat.add_assoc]
    | some _ => rfl

/-- A trie's value, as a root and the numbers beside. -/
structure TrV (w : Int) (b : Nat) (len nds : Int) (t : Tr) (m : List AV) : Prop where
  val : ∃ x y z, mget m b = some [.int .i64 w, x, y, z, .int .i64 len, .int .i64 nds]
  root : ∃ act l r, t = .nd ⟨b, 1, none⟩ act l r ∧ l.flat ∧ r.flat ∧ l.full ∧ r.full
  lies : t.lies m
  apart : t.blks.Nodup
  len : len = ((t.list 0#64 0#64 0).length : Int)
  nds : nds = (t.size : Int)
  head : ∃ ty cs l, m = mblk b ty cs :: l

theorem TrI.v {w : Int} {b : Nat} {act : Int} {L R : Tr} {len nds : Int} {m : List AV} (h : TrI w b act L R len nds m) : TrV w b len nds (.nd ⟨b, 1, none⟩ act L R) m := by
  refine ⟨⟨_, _, _, h.val⟩, ⟨act, L, R, rfl, h.flat.1, h.flat.2, h.full.1, h.full.2⟩, ⟨?_, rfl, h.left, h.right⟩, h.apart, ?_, h.nds, h.head⟩
  · unfold mread
    simp only [h.val]
    rfl
  · rw [h.len, Tr.rows_eq, List.length_map]

theorem TrV.i {w : Int} {b : Nat} {len nds : Int} {t : Tr} {m : List AV} (h : TrV w b len nds t m) : ∃ act L R, t = .nd ⟨b, 1, none⟩ act L R ∧ TrI w b act L R len nds m := by
  obtain ⟨act, L, R, rfl, f1, f2, g1, g2⟩ := h.root
  obtain ⟨x, y, z, hv⟩ := h.val
  obtain ⟨l1, _, l3, l4⟩ := h.lies
  obtain ⟨cs, c1, _, c3⟩ := node_cells rfl l1
  dsimp only at c1 c3
  rw [hv] at c1
  cases c1
  have c3 : [x, y, z] = _ := c3
  cases c3
  exact ⟨act, L, R, rfl, h.head, hv, l3, l4, ⟨f1, f2⟩, h.apart, ⟨g1, g2⟩, by rw [h.len, Tr.rows_eq, List.length_map], h.nds⟩

theorem Tr.lies_sub {m : List AV} (f : Nat → Bool) : ∀ (n k : Nat) (t : Tr), t.lies m → (Tr.sub f k n t).lies m
  | 0, _, _, h => h
  | n + 1, _, .nil, _ => trivial
  | n + 1, k, .nd _ _ l r, h => Tr.lies_sub f n (k + 1) _ (by split; exact h.2.2.2; exact h.2.2.1)

/-- Of a node that lies in memory: the one below. -/
theorem Tr.step_read {m : List AV} {t : Tr} (h : t.lies m) (hn : t ≠ .nil) (f : Nat → Bool) (k : Nat) : mread m (shift (shift t.ptr 0) (if f k then 1 else 0)) false 1 = some (.val (.pointer (Tr.sub f k 1 t).ptr)) := by
  cases t with
  | nil => exact absurd rfl hn
  | nd q act l r =>
    obtain ⟨h1, h2, _⟩ := h
    obtain ⟨g0, g1, _⟩ := node_read h2 h1
    rw [shift_shift]
    cases hf : f k with
    | true => simp only [if_true, Nat.zero_add]; rw [show Tr.ptr (.nd q act l r) = some q from rfl, g1]; simp [Tr.sub, hf]
    | false => simp only [Bool.false_eq_true, if_false]; rw [show Tr.ptr (.nd q act l r) = some q from rfl, g0]; simp [Tr.sub, hf]

theorem Tr.act_read {m : List AV} {t : Tr} (h : t.lies m) (hn : t ≠ .nil) : mread m (shift t.ptr 2) false 1 = some (.int .i64 t.act) := by
  cases t with
  | nil => exact absurd rfl hn
  | nd q act l r => exact (node_read h.2.1 h.1).2.2

theorem Tr.ptr_some {t : Tr} (hn : t ≠ .nil) : t.ptr.isSome = true := by
  cases t with
  | nil => exact absurd rfl hn
  | nd => rfl

theorem Tr.ptr_nil {t : Tr} : t.ptr.isNone = true ↔ t = .nil := by
  cases t with
  | nil => exact ⟨fun _ => rfl, fun _ => rfl⟩
  | nd => exact ⟨fun h => (by cases h), fun h => (by cases h)⟩

theorem Tr.ptr_sure {m : List AV} {t : Tr} (h : t.lies m) (hn : t ≠ .nil) : sure t.ptr = true := by
  cases t with
  | nil => exact absurd rfl hn
  | nd => exact h.2.1

theorem sure_shift {q : Option Addr} (h : sure q = true) (n : Nat) : sure (shift q n) = true := by
  cases q with
  | none => cases h
  | some q =>
    rw [shift_some _ (sure_some' h)]; rfl

theorem TrV.width {w : Int} {nb : Nat} {len nds : Int} {t : Tr} {m : List AV} (h : TrV w nb len nds t m) : mread m (shift (some ⟨nb, 0, none⟩) 0) false 1 = some (.int .i64 w) := by
  obtain ⟨x, y, z, hv⟩ := h.val
  show mread m (some ⟨nb, 0 + 0, none⟩) false 1 = _
  unfold mread
  simp only [hv]
  rfl

theorem TrV.ptr {w : Int} {nb : Nat} {len nds : Int} {t : Tr} {m : List AV} (h : TrV w nb len nds t m) : t.ptr = some ⟨nb, 1, none⟩ := by
  obtain ⟨act, l, r, rfl, _⟩ := h.root
  rfl

end Go.Sx.M
end

section
/-
  Layer 7: contracts of the program's calls on a trie's nodes: side, route, at.
-/
namespace Go.Proofs.Ytfpofdlpgocnlaa.L1
open Go.Sx Go.Sx.M

def sideF : List Arg → (Res → Prop) → Prop
  | [.v (.agg [.w64 a, .w64 b]), .v (.int .i64 k)], R => (bitZ a b k = true → R (.v (.int .i64 1))) ∧ (bitZ a b k = false → R (.v (.int .i64 0)))
  | _, _ => False

/-- A route of a prefix, of an action that is not 0. -/
def roV (v : Int) (p : Pf) : Ro := if v = 0 then ⟨⟨0#64, 0#64, 0⟩, 0⟩ else ⟨p, v⟩

/-- A node's route, of its prefix: what is told of memory. -/
def routeF : List AV → List Arg → (Res → Prop) → Prop
  | m, [.v (.val (.pointer q)), .v (.agg [.w64 a, .w64 b, .int .i64 k])], R => ∃ t : Tr, t.ptr = q ∧ t.lies m ∧
      R (.v (.tuple [.agg [.w64 (roV t.act ⟨a, b, k⟩).p.a, .w64 (roV t.act ⟨a, b, k⟩).p.b, .int .i64 (roV t.act ⟨a, b, k⟩).p.len, .int .i64 (roV t.act ⟨a, b, k⟩).act], .bool (decide (t.act ≠ 0))]))
  | _, _, _ => False

/-- The node of a prefix. -/
def atF : List AV → List Arg → (Res → Prop) → Prop
  | m, [.v (.val (.pointer q)), .v (.agg [.w64 a, .w64 b, .int .i64 k])], R => ∃ (w : Int) (nb : Nat) (len nds : Int) (t : Tr), TrV w nb len nds t m ∧ q = some ⟨nb, 0, none⟩ ∧
      R (.v (.val (.pointer (if riP w ⟨a, b, k⟩ then (Tr.sub (bitAt a b) 0 k.toNat t).ptr else none))))
  | _, _, _ => False

def atSt (nb : Nat) (m : List AV) (t : Tr) (a b : BitVec 64) (k : Int) (p : Nat) : St :=
  ⟨[.val (.pointer (some ⟨nb, 0, none⟩)), .any, .any, .ptr 1 0 0 true, .any, .val (.pointer (Tr.sub (bitAt a b) 0 p t).ptr), .int .i64 p, .any, .any, .any, .any, .any, .any, .any, .any, .any, .any, .any, .any, .any, .any, .any, .any, .any, .any, .any, .any, .any, .any, .any, .any, .any, .any, .any, .any, .any, .any], [some ⟨false, memTy, 0, true, m⟩, some ⟨true, 39, 3, true, [.agg [.w64 a, .w64 b, .int .i64 k]]⟩]⟩
def atM0 : Modes := ⟨[1, 0, 0, 1, 0, 2, 2, 0, 0, 0, 0, 0, 0, 0, 0, 0, 0, 0, 0, 0, 0, 0, 0, 0, 0, 0, 0, 0, 0, 0, 0, 0, 0, 0, 0, 0, 0], [], [], [], []⟩
def atM : Modes := ⟨[1, 0, 0, 1, 0, 1, 1, 0, 0, 0, 0, 0, 0, 0, 0, 0, 0, 0, 0, 0, 0, 0, 0, 0, 0, 0, 0, 0, 0, 0, 0, 0, 0, 0, 0, 0, 0], [], [], [], []⟩
def atM' : Modes := ⟨[0, 0, 0, 0, 0, 1, 0, 0, 0, 0, 0, 0, 0, 0, 0, 0, 0, 0, 0, 0, 0, 0, 0, 0, 0, 0, 0, 0, 0, 0, 0, 0, 0, 0, 0, 0, 0], [], [], [], []⟩
def atH (nb : Nat) (m : List AV) (t : Tr) (w : Int) (a b : BitVec 64) (k : Int) : List Hint := [.cell (.int .i64 w), .fork [] [.linv _ 0 (atSt nb m t a b k) (fun p => p ≤ k.toNat) (fun p => k.toNat + 1 - p) atM0 atM atM' (fun _ => []) fun p =>
  [.fork [.fork [.dy, .cell (.val (.pointer (Tr.sub (bitAt a b) 0 (p + 1) t).ptr)), .nw] []] []]]]

noncomputable def sideCs : List (FuncId × Sx.Spec) := [(72, genSpec [none, none] bitF)]

theorem side_run (a b : BitVec 64) (k : Int) (r : AV) : run sideCs Try.prog 63 [.agg [.w64 a, .w64 b], .int .i64 k] [] [.fork [] []] (yields (.v r)) =
    ((bitZ a b k = true → AV.int IntKind.i64 (1 : Int) = r) ∧ (bitZ a b k = false → AV.int IntKind.i64 (0 : Int) = r)) := by kernel_rfl

theorem route_run (m : List AV) (q : Option Addr) (a b : BitVec 64) (k act : Int) (r : AV) : run [] Try.prog 42 [.val (.pointer q), .agg [.w64 a, .w64 b, .int .i64 k]] [some ⟨false, memTy, 0, true, m⟩] [.fork [] [.cell (.int .i64 act), .fork [] [.cell (.int .i64 act)]]] (yields (.v r)) =
    ((Option.isNone q = true → AV.tuple [AV.agg [AV.w64 (BitVec.ofInt (64 : Nat) (0 : Int)), AV.w64 (BitVec.ofInt (64 : Nat) (0 : Int)), AV.int IntKind.i64 (0 : Int), AV.int IntKind.i64 (0 : Int)], AV.bool false] = r) ∧ (Option.isNone q = false → Option.isSome q = true ∧ sure q = true ∧ mread m (shift q (2 : Nat)) false (1 : Nat) = some (AV.int IntKind.i64 act) ∧ ((act == (0 : Int)) = true → AV.tuple [AV.agg [AV.w64 (BitVec.ofInt (64 : Nat) (0 : Int)), AV.w64 (BitVec.ofInt (64 : Nat) (0 : Int)), AV.int IntKind.i64 (0 : Int), AV.int IntKind.i64 (0 : Int)], AV.bool false] = r) ∧ ((act == (0 : Int)) = false → Option.isSome q = true ∧ sure q = true ∧ mread m (shift q (2 : Nat)) false (1 : Nat) = some (AV.int IntKind.i64 act) ∧ AV.tuple [AV.agg [AV.w64 a, AV.w64 b, AV.int IntKind.i64 k, AV.int IntKind.i64 act], AV.bool true] = r))) := by kernel_rfl

noncomputable def atCs : List (FuncId × Sx.Spec) := [(44, genSpec [none, none] rightF), (63, genSpec [none, none] sideF)]

theorem at_run (nb : Nat) (m : List AV) (t : Tr) (w : Int) (a b : BitVec 64) (k : Int) (r : AV) : run atCs Try.prog 41 [.val (.pointer (some ⟨nb, 0, none⟩)), .agg [.w64 a, .w64 b, .int .i64 k]] [some ⟨false, memTy, 0, true, m⟩] (atH nb m t w a b k) (yields (.v r)) =
    (Option.isSome (some (Addr.mk nb (0 : Nat) none)) = true ∧ sure (some (Addr.mk nb (0 : Nat) none)) = true ∧ mread m (shift (some (Addr.mk nb (0 : Nat) none)) (0 : Nat)) false (1 : Nat) = some (AV.int IntKind.i64 w) ∧ ((!rightB w a b k) = true → AV.val (Value.pointer none) = r) ∧ ((!rightB w a b k) = false → Option.isSome (some (Addr.mk nb (0 : Nat) none)) = true ∧ sure (some (Addr.mk nb (0 : Nat) none)) = true ∧ (St.mk [AV.val (Value.pointer (some (Addr.mk nb (0 : Nat) none))), AV.any, AV.any, AV.ptr ((0 : Nat) + (1 : Nat)) (0 : Nat) (0 : Nat) true, AV.any, AV.val (Value.pointer (shift (some (Addr.mk nb (0 : Nat) none)) (1 : Nat))), AV.int IntKind.i64 (0 : Int), AV.any, AV.any, AV.any, AV.any, AV.any, AV.any, AV.any, AV.any, AV.any, AV.any, AV.any, AV.any, AV.any, AV.any, AV.any, AV.any, AV.any, AV.any, AV.any, AV.any, AV.any, AV.any, AV.any, AV.any, AV.any, AV.any, AV.any, AV.any, AV.any, AV.any] [some (Blk.mk false (nat_lit 1000003) (0 : Nat) true m), some (Blk.mk true (39 : Nat) (3 : Nat) true [AV.agg [AV.w64 a, AV.w64 b, AV.int IntKind.i64 k]])] = atSt nb m t a b k (0 : Nat) ∧ Nat.le (0 : Nat) (Int.toNat k)) ∧ ∀ (p : Nat), Nat.le p (Int.toNat k) → ((!Option.isNone (Tr.ptr (Tr.sub (bitAt a b) (0 : Nat) p t))) = true → (Decidable.decide ((↑p : Int) < k) = true → Option.isSome (Tr.ptr (Tr.sub (bitAt a b) (0 : Nat) p t)) = true ∧ sure (Tr.ptr (Tr.sub (bitAt a b) (0 : Nat) p t)) = true ∧ (bitZ a b (↑p : Int) = true → ((0 : Int) ≤ (1 : Int) ∧ (1 : Int) < (↑(2 : Nat) : Int)) ∧ sure (shift (Tr.ptr (Tr.sub (bitAt a b) (0 : Nat) p t)) (0 : Nat)) = true ∧ mread m (shift (shift (Tr.ptr (Tr.sub (bitAt a b) (0 : Nat) p t)) (0 : Nat)) (Int.toNat (1 : Int) * (1 : Nat))) false (1 : Nat) = some (AV.val (Value.pointer (Tr.ptr (Tr.sub (bitAt a b) (0 : Nat) (p + (1 : Nat)) t)))) ∧ inRange IntKind.i64 ((↑p : Int) + (1 : Int)) ∧ ∃ (p' : Nat), St.mk [AV.val (Value.pointer (some (Addr.mk nb (0 : Nat) none))), AV.any, AV.any, AV.ptr ((0 : Nat) + (1 : Nat)) (0 : Nat) (0 : Nat) true, AV.any, AV.val (Value.pointer (Tr.ptr (Tr.sub (bitAt a b) (0 : Nat) (p + (1 : Nat)) t))), AV.int IntKind.i64 ((↑p : Int) + (1 : Int)), AV.any, AV.any, AV.any, AV.any, AV.any, AV.any, AV.any, AV.any, AV.any, AV.any, AV.any, AV.any, AV.any, AV.any, AV.any, AV.any, AV.any, AV.any, AV.any, AV.any, AV.any, AV.any, AV.any, AV.any, AV.any, AV.any, AV.any, AV.any, AV.any, AV.any] [some (Blk.mk false (nat_lit 1000003) (0 : Nat) true m), some (Blk.mk true (39 : TypeId) (3 : Nat) true [AV.agg [AV.w64 a, AV.w64 b, AV.int IntKind.i64 k]])] = atSt nb m t a b k p' ∧ Nat.le p' (Int.toNat k) ∧ Int.toNat k + (1 : Nat) - p' < Int.toNat k + (1 : Nat) - p) ∧ (bitZ a b (↑p : Int) = false → ((0 : Int) ≤ (0 : Int) ∧ (0 : Int) < (↑(2 : Nat) : Int)) ∧ sure (shift (Tr.ptr (Tr.sub (bitAt a b) (0 : Nat) p t)) (0 : Nat)) = true ∧ mread m (shift (shift (Tr.ptr (Tr.sub (bitAt a b) (0 : Nat) p t)) (0 : Nat)) (Int.toNat (0 : Int) * (1 : Nat))) false (1 : Nat) = some (AV.val (Value.pointer (Tr.ptr (Tr.sub (bitAt a b) (0 : Nat) (p + (1 : Nat)) t)))) ∧ inRange IntKind.i64 ((↑p : Int) + (1 : Int)) ∧ ∃ (p' : Nat), St.mk [AV.val (Value.pointer (some (Addr.mk nb (0 : Nat) none))), AV.any, AV.any, AV.ptr ((0 : Nat) + (1 : Nat)) (0 : Nat) (0 : Nat) true, AV.any, AV.val (Value.pointer (Tr.ptr (Tr.sub (bitAt a b) (0 : Nat) (p + (1 : Nat)) t))), AV.int IntKind.i64 ((↑p : Int) + (1 : Int)), AV.any, AV.any, AV.any, AV.any, AV.any, AV.any, AV.any, AV.any, AV.any, AV.any, AV.any, AV.any, AV.any, AV.any, AV.any, AV.any, AV.any, AV.any, AV.any, AV.any, AV.any, AV.any, AV.any, AV.any, AV.any, AV.any, AV.any, AV.any, AV.any, AV.any] [some (Blk.mk false (nat_lit 1000003) (0 : Nat) true m), some (Blk.mk true (39 : TypeId) (3 : Nat) true [AV.agg [AV.w64 a, AV.w64 b, AV.int IntKind.i64 k]])] = atSt nb m t a b k p' ∧ Nat.le p' (Int.toNat k) ∧ Int.toNat k + (1 : Nat) - p' < Int.toNat k + (1 : Nat) - p)) ∧ (Decidable.decide ((↑p : Int) < k) = false → AV.val (Value.pointer (Tr.ptr (Tr.sub (bitAt a b) (0 : Nat) p t))) = r)) ∧ ((!Option.isNone (Tr.ptr (Tr.sub (bitAt a b) (0 : Nat) p t))) = false → AV.val (Value.pointer (Tr.ptr (Tr.sub (bitAt a b) (0 : Nat) p t))) = r))) := by kernel_rfl

theorem sideCs_ok : ∀ e ∈ sideCs, SpecOK Try.prog e.1 e.2 := by
  intro e he
  simp only [sideCs, List.mem_cons, List.not_mem_nil, or_false] at he
  subst he
  exact bit_ok

theorem side_ok : SpecOK Try.prog 63 (genSpec [none, none] sideF) := by
  refine genSpec_ok (run_ok (l := sideCs) sideCs_ok mixed noNG) fun l R hF => ?_
  unfold sideF at hF
  split at hF
  · rename_i a b k
    cases hb : bitZ a b k with
    | true =>
      refine ⟨_, hF.1 hb, rfl, [.fork [] []], ?_⟩
      show run sideCs Try.prog _ [.agg [.w64 a, .w64 b], .int .i64 k] [] _ _
      rw [side_run]
      exact ⟨fun _ => rfl, fun h => by rw [hb] at h; cases h⟩
    | false =>
      refine ⟨_, hF.2 hb, rfl, [.fork [] []], ?_⟩
      show run sideCs Try.prog _ [.agg [.w64 a, .w64 b], .int .i64 k] [] _ _
      rw [side_run]
      exact ⟨fun h => (by rw [hb] at h; cases h), fun _ => rfl⟩
  · exact hF.elim

theorem route_ok : SpecOK Try.prog 42 (memR [none, none] routeF) := by
  refine memR_ok none_ok fun m l R hF => ?_
  unfold routeF at hF
  split at hF
  · rename_i q a b k
    obtain ⟨t, rfl, hl, hR⟩ := hF
    refine ⟨_, hR, rfl, [.fork [] [.cell (.int .i64 (t.act)), .fork [] [.cell (.int .i64 (t.act))]]], ?_⟩
    show run [] Try.prog _ [.val (.pointer t.ptr), .agg [.w64 a, .w64 b, .int .i64 k]] [some ⟨false, memTy, 0, true, m⟩] _ _
    rw [route_run (act := t.act)]
    refine ⟨fun h => ?_, fun h => ?_⟩
    · rw [Tr.ptr_nil.1 h]; rfl
    · have hn : t ≠ .nil := fun e => by rw [Tr.ptr_nil.2 e] at h; cases h
      refine ⟨Tr.ptr_some hn, Tr.ptr_sure hl hn, Tr.act_read hl hn, fun h0 => ?_, fun h0 => ⟨Tr.ptr_some hn, Tr.ptr_sure hl hn, Tr.act_read hl hn, ?_⟩⟩
      · have h0 : t.act = 0 := by simpa using h0
        unfold roV
        rw [if_pos h0, h0]; rfl
      · have h0 : t.act ≠ 0 := by simpa using h0
        unfold roV
        rw [if_neg h0, decide_eq_true h0]
  · exact hF.elim

theorem atCs_ok : ∀ e ∈ atCs, SpecOK Try.prog e.1 e.2 := by
  intro e he
  simp only [atCs, List.mem_cons, List.not_mem_nil, or_false] at he
  rcases he with rfl | rfl
  · exact pright_ok
  · exact side_ok

theorem at_ok : SpecOK Try.prog 41 (memR [none, none] atF) := by
  refine memR_ok (run_ok (l := atCs) atCs_ok mixed noNG) fun m l R hF => ?_
  unfold atF at hF
  split at hF
  · rename_i q a b k
    obtain ⟨w, nb, len, nds, t, hV, rfl, hR⟩ := hF
    refine ⟨_, hR, rfl, (atH nb m t w a b k), ?_⟩
    show run atCs Try.prog _ [.val (.pointer (some ⟨nb, 0, none⟩)), .agg [.w64 a, .w64 b, .int .i64 k]] [some ⟨false, memTy, 0, true, m⟩] _ _
    rw [at_run]
    refine ⟨rfl, rfl, hV.width, fun h => ?_, fun h => ⟨rfl, rfl, ⟨?_, Nat.zero_le _⟩, fun p hp => ⟨fun hs => ⟨fun hlt => ?_, fun hge => ?_⟩, fun hn => ?_⟩⟩⟩
    · have h : rightB w a b k = false := by simpa using h
      rw [if_neg (by rw [show riP w ⟨a, b, k⟩ = rightB w a b k from rfl, h]; simp)]
    · show St.mk _ _ = atSt nb m t a b k 0
      unfold atSt
      rw [show Tr.sub (bitAt a b) 0 0 t = t from rfl, hV.ptr]
      rfl
    · have h : rightB w a b k = true := by simpa using h
      have h : riP w ⟨a, b, k⟩ = true := h
      obtain ⟨hw, k0, k1, _⟩ := riP_iff.1 h
      have k0 : 0 ≤ k := k0
      have k1 : k ≤ w := k1
      have hlt : (p : Int) < k := by simpa using hlt
      have hp128 : p < 128 := by omega
      have hn : Tr.sub (bitAt a b) 0 p t ≠ .nil := fun e => by rw [Tr.ptr_nil.2 e] at hs; cases hs
      have hl := Tr.lies_sub (bitAt a b) p 0 t hV.lies
      have hz : bitZ a b (p : Int) = bitAt a b p := bitZ_at (by omega) (by omega)
      have hst := Tr.step_read hl hn (bitAt a b) p
      have hsub : Tr.sub (bitAt a b) p 1 (Tr.sub (bitAt a b) 0 p t) = Tr.sub (bitAt a b) 0 (p + 1) t := by
        have := Tr.sub_succ (bitAt a b) 0 p t
        rw [Nat.zero_add] at this
        exact this.symm
      rw [hsub] at hst
      refine ⟨Tr.ptr_some hn, Tr.ptr_sure hl hn, fun hb => ⟨⟨by decide, by decide⟩, sure_shift (Tr.ptr_sure hl hn) 0, ?_, inR (by omega) (by omega), p + 1, rfl, Nat.succ_le_of_lt (by omega), by omega⟩, fun hb => ⟨⟨by decide, by decide⟩, sure_shift (Tr.ptr_sure hl hn) 0, ?_, inR (by omega) (by omega), p + 1, rfl, Nat.succ_le_of_lt (by omega), by omega⟩⟩
      · rw [← hz, hb] at hst; exact hst
      · rw [← hz, hb] at hst; exact hst
    · have h : rightB w a b k = true := by simpa using h
      have h : riP w ⟨a, b, k⟩ = true := h
      obtain ⟨hw, k0, k1, _⟩ := riP_iff.1 h
      have k0 : 0 ≤ k := k0
      have hge : ¬ (p : Int) < k := by simpa using hge
      have hp : p ≤ k.toNat := hp
      have : p = k.toNat := by omega
      rw [if_pos h, this]
    · have h : rightB w a b k = true := by simpa using h
      have h : riP w ⟨a, b, k⟩ = true := h
      have hp : p ≤ k.toNat := hp
      have hn : Tr.sub (bitAt a b) 0 p t = .nil := Tr.ptr_nil.1 (by simpa using hn)
      rw [if_pos h, hn, show k.toNat = p + (k.toNat - p) by omega, Tr.sub_add, hn, Tr.sub_nil]
  · exact hF.elim

end Go.Proofs.Ytfpofdlpgocnlaa.L1
end

section
/-
  Layer 7: a tree in raw memory, turned at one place: the tree, and the memory. Plain mathematics.
-/
namespace Go.Sx.M
open Go.Proofs.Ytfpofdlpgocnlaa.L1

/-- A tree, another one put in its place n bits on. -/
def Tr.upd (f : Nat → Bool) : Nat → Nat → Tr → Tr → Tr
  | _, 0, u, _ => u
  | _, _ + 1, _, .nil => .nil
  | k, n + 1, u, .nd q a l r => if f k then .nd q a l (Tr.upd f (k + 1) n u r) else .nd q a (Tr.upd f (k + 1) n u l) r

theorem Tr.blks_nd (q : Addr) (a : Int) (l r : Tr) : (Tr.nd q a l r).blks = q.block :: (l.blks ++ r.blks) := rfl

theorem Tr.sub_one {f : Nat → Bool} {k n : Nat} {q : Addr} {a : Int} {l r : Tr} : Tr.sub f k (n + 1) (.nd q a l r) = Tr.sub f (k + 1) n (if f k then r else l) := rfl

theorem Tr.upd_one {f : Nat → Bool} {k n : Nat} {u : Tr} {q : Addr} {a : Int} {l r : Tr} : Tr.upd f k (n + 1) u (.nd q a l r) = if f k then .nd q a l (Tr.upd f (k + 1) n u r) else .nd q a (Tr.upd f (k + 1) n u l) r := rfl

theorem Tr.upd_ptr {f : Nat → Bool} {u' : Tr} : ∀ {n k : Nat} {t : Tr}, u'.ptr = (Tr.sub f k n t).ptr → (Tr.upd f k n u' t).ptr = t.ptr
  | 0, _, _, h => h
  | n + 1, k, .nil, _ => rfl
  | n + 1, k, .nd q a l r, _ => by unfold Tr.upd; split <;> rfl

theorem Tr.upd_size {f : Nat → Bool} {u' : Tr} : ∀ {n k : Nat} {t : Tr}, Tr.sub f k n t ≠ .nil → (Tr.upd f k n u' t).size + (Tr.sub f k n t).size = t.size + u'.size
  | 0, _, _, _ => by simp only [Tr.upd, Tr.sub]; omega
  | n + 1, k, .nil, h => absurd (Tr.sub_nil _ _ _) h
  | n + 1, k, .nd q a l r, h => by
    rw [Tr.sub_one] at h ⊢
    unfold Tr.upd
    cases hf : f k with
    | true =>
      rw [hf] at h
      have := Tr.upd_size (u' := u') h
      simp only [if_true, Tr.size] at this ⊢; omega
    | false =>
      rw [hf] at h
      have := Tr.upd_size (u' := u') h
      simp only [Bool.false_eq_true, if_false, Tr.size] at this ⊢; omega

theorem Tr.sub_blks {f : Nat → Bool} : ∀ {n k : Nat} {t : Tr} {b : Nat}, b ∈ (Tr.sub f k n t).blks → b ∈ t.blks
  | 0, _, _, _, h => h
  | n + 1, k, .nil, b, h => by rw [Tr.sub_nil] at h; cases h
  | n + 1, k, .nd q a l r, b, h => by
    rw [Tr.sub_one] at h
    have := Tr.sub_blks h
    rw [Tr.blks_nd]
    split at this
    · exact List.mem_cons_of_mem _ (List.mem_append_right _ this)
    · exact List.mem_cons_of_mem _ (List.mem_append_left _ this)

theorem Tr.upd_blks {f : Nat → Bool} {u' : Tr} : ∀ {n k : Nat} {t : Tr} {b : Nat}, b ∈ (Tr.upd f k n u' t).blks → b ∈ t.blks ∨ b ∈ u'.blks
  | 0, _, _, _, h => .inr h
  | n + 1, k, .nil, b, h => .inl h
  | n + 1, k, .nd q a l r, b, h => by
    unfold Tr.upd at h
    rw [Tr.blks_nd]
    split at h
    · rcases List.mem_cons.1 h with rfl | h
      · exact .inl List.mem_cons_self
      · rcases List.mem_append.1 h with h | h
        · exact .inl (List.mem_cons_of_mem _ (List.mem_append_left _ h))
        · exact (Tr.upd_blks h).imp (fun h => List.mem_cons_of_mem _ (List.mem_append_right _ h)) id
    · rcases List.mem_cons.1 h with rfl | h
      · exact .inl List.mem_cons_self
      · rcases List.mem_append.1 h with h | h
        · exact (Tr.upd_blks h).imp (fun h => List.mem_cons_of_mem _ (List.mem_append_left _ h)) id
        · exact .inl (List.mem_cons_of_mem _ (List.mem_append_right _ h))

theorem nd_nodup {q : Addr} {a : Int} {l r : Tr} : (Tr.nd q a l r).blks.Nodup ↔ (q.block ∉ l.blks ∧ q.block ∉ r.blks) ∧ l.blks.Nodup ∧ r.blks.Nodup ∧ ∀ b ∈ l.blks, b ∉ r.blks := by
  rw [Tr.blks_nd, List.nodup_cons, List.nodup_append, List.mem_append, not_or]
  exact ⟨fun ⟨h1, h2, h3, h4⟩ => ⟨h1, h2, h3, fun b hb hr => h4 b hb b hr rfl⟩, fun ⟨h1, h2, h3, h4⟩ => ⟨h1, h2, h3, fun b hb c hc e => h4 b hb (e ▸ hc)⟩⟩

/-- What is put in is of blocks that were there, or that are new. -/
theorem Tr.upd_nodup {f : Nat → Bool} {u' : Tr} : ∀ {n k : Nat} {t : Tr}, t.blks.Nodup → u'.blks.Nodup → (∀ b ∈ u'.blks, b ∈ (Tr.sub f k n t).blks ∨ b ∉ t.blks) → (Tr.upd f k n u' t).blks.Nodup
  | 0, _, _, _, h, _ => h
  | n + 1, k, .nil, h, _, _ => h
  | n + 1, k, .nd q a l r, h, hu, hn => by
    obtain ⟨⟨h1, h2⟩, h3, h4, h5⟩ := nd_nodup.1 h
    rw [Tr.sub_one] at hn
    have hq : q.block ∉ u'.blks := fun hm => by
      rcases hn _ hm with h | h
      · have := Tr.sub_blks h
        split at this
        · exact h2 this
        · exact h1 this
      · exact h List.mem_cons_self
    unfold Tr.upd
    cases hf : f k with
    | true =>
      rw [hf] at hn
      simp only [if_true] at hn ⊢
      have hn' : ∀ b ∈ u'.blks, b ∈ (Tr.sub f (k + 1) n r).blks ∨ b ∉ r.blks := fun b hb => (hn b hb).imp id fun h hr => h (List.mem_cons_of_mem _ (List.mem_append_right _ hr))
      refine nd_nodup.2 ⟨⟨h1, fun hm => (Tr.upd_blks hm).elim h2 hq⟩, h3, Tr.upd_nodup h4 hu hn', fun b hb hm => ?_⟩
      rcases Tr.upd_blks hm with h | h
      · exact h5 b hb h
      · rcases hn b h with h | h
        · exact h5 b hb (Tr.sub_blks h)
        · exact h (List.mem_cons_of_mem _ (List.mem_append_left _ hb))
    | false =>
      rw [hf] at hn
      simp only [Bool.false_eq_true, if_false] at hn ⊢
      have hn' : ∀ b ∈ u'.blks, b ∈ (Tr.sub f (k + 1) n l).blks ∨ b ∉ l.blks := fun b hb => (hn b hb).imp id fun h hr => h (List.mem_cons_of_mem _ (List.mem_append_left _ hr))
      refine nd_nodup.2 ⟨⟨fun hm => (Tr.upd_blks hm).elim h1 hq, h2⟩, Tr.upd_nodup h3 hu hn', h4, fun b hm hb => ?_⟩
      rcases Tr.upd_blks hm with h | h
      · exact h5 b h hb
      · rcases hn b h with h | h
        · exact h5 b (Tr.sub_blks h) hb
        · exact h (List.mem_cons_of_mem _ (List.mem_append_right _ hb))

theorem mread_of {m m' : List AV} {q : Addr} (h : mget m' q.block = mget m q.block) (ag : Bool) (n : Nat) : mread m' (some q) ag n = mread m (some q) ag n := by
  obtain ⟨b, o, s⟩ := q
  cases s with
  | none => unfold mread; dsimp only at h ⊢; rw [h]
  | some _ => rfl

theorem Tr.lies_of {m m' : List AV} : ∀ {t : Tr}, (∀ b ∈ t.blks, mget m' b = mget m b) → t.lies m → t.lies m'
  | .nil, _, _ => trivial
  | .nd q a l r, h, ⟨h1, h2, h3, h4⟩ => by
    rw [Tr.blks_nd] at h
    exact ⟨(mread_of (h _ List.mem_cons_self) _ _).trans h1, h2, Tr.lies_of (fun b hb => h b (List.mem_cons_of_mem _ (List.mem_append_left _ hb))) h3, Tr.lies_of (fun b hb => h b (List.mem_cons_of_mem _ (List.mem_append_right _ hb))) h4⟩

/-- The memory is turned in the blocks of the tree that is put in, or in new ones. -/
theorem Tr.upd_lies {m m' : List AV} {f : Nat → Bool} {u' : Tr} (hu : u'.lies m') : ∀ {n k : Nat} {t : Tr}, t.lies m → t.blks.Nodup → u'.ptr = (Tr.sub f k n t).ptr → (∀ b ∈ t.blks, b ∉ (Tr.sub f k n t).blks → mget m' b = mget m b) → (Tr.upd f k n u' t).lies m'
  | 0, _, _, _, _, _, _ => hu
  | n + 1, k, .nil, _, _, _, _ => trivial
  | n + 1, k, .nd q a l r, ⟨h1, h2, h3, h4⟩, hnd, hp, hm => by
    obtain ⟨⟨n1, n2⟩, n3, n4, n5⟩ := nd_nodup.1 hnd
    rw [Tr.sub_one] at hp hm
    have hq : mget m' q.block = mget m q.block := hm _ List.mem_cons_self fun hx => by
      have := Tr.sub_blks hx
      split at this
      · exact n2 this
      · exact n1 this
    unfold Tr.upd
    cases hf : f k with
    | true =>
      rw [hf] at hp hm
      simp only [if_true] at hp hm ⊢
      refine ⟨?_, h2, Tr.lies_of (fun b hb => hm b (List.mem_cons_of_mem _ (List.mem_append_left _ hb)) fun hx => n5 b hb (Tr.sub_blks hx)) h3, Tr.upd_lies hu h4 n4 hp fun b hb hx => hm b (List.mem_cons_of_mem _ (List.mem_append_right _ hb)) hx⟩
      rw [mread_of hq, h1, Tr.upd_ptr hp]
    | false =>
      rw [hf] at hp hm
      simp only [Bool.false_eq_true, if_false] at hp hm ⊢
      refine ⟨?_, h2, Tr.upd_lies hu h3 n3 hp fun b hb hx => hm b (List.mem_cons_of_mem _ (List.mem_append_left _ hb)) hx, Tr.lies_of (fun b hb => hm b (List.mem_cons_of_mem _ (List.mem_append_right _ hb)) fun hx => n5 b (Tr.sub_blks hx) hb) h4⟩
      rw [mread_of hq, h1, Tr.upd_ptr hp]

theorem Tr.upd_flat {f : Nat → Bool} {u' : Tr} : ∀ {n k : Nat} {t : Tr}, t.flat → u'.flat → (Tr.upd f k n u' t).flat
  | 0, _, _, _, h => h
  | n + 1, k, .nil, h, _ => h
  | n + 1, k, .nd q a l r, ⟨h1, h2, h3⟩, hu => by
    unfold Tr.upd
    split
    · exact ⟨h1, h2, Tr.upd_flat h3 hu⟩
    · exact ⟨h1, Tr.upd_flat h2 hu, h3⟩

theorem Tr.upd_ok {f : Nat → Bool} {u' : Tr} : ∀ {n k : Nat} {t : Tr}, t.ok k → u'.ok (k + n) → (Tr.upd f k n u' t).ok k
  | 0, _, _, _, h => h
  | n + 1, k, .nil, h, _ => h
  | n + 1, k, .nd q a l r, ⟨h1, h2, h3⟩, hu => by
    rw [show k + (n + 1) = k + 1 + n by omega] at hu
    unfold Tr.upd
    split
    · exact ⟨h1, h2, Tr.upd_ok h3 hu⟩
    · exact ⟨h1, Tr.upd_ok h2 hu, h3⟩

/-- What is found in it, along any way. -/
theorem Tr.upd_act {f g : Nat → Bool} {u' : Tr} : ∀ {n k m : Nat} {t : Tr}, Tr.sub f k n t ≠ .nil →
    ((n ≤ m ∧ (∀ i, k ≤ i → i < k + n → g i = f i)) → Tr.sub g k m (Tr.upd f k n u' t) = Tr.sub g (k + n) (m - n) u') ∧ (¬ (n ≤ m ∧ (∀ i, k ≤ i → i < k + n → g i = f i)) → (Tr.sub g k m (Tr.upd f k n u' t)).act = (Tr.sub g k m t).act)
  | 0, k, m, t, _ => ⟨fun _ => rfl, fun h => absurd ⟨Nat.zero_le _, fun i h1 h2 => by omega⟩ h⟩
  | n + 1, k, m, .nil, h => absurd (Tr.sub_nil _ _ _) h
  | n + 1, k, 0, .nd q a l r, _ => ⟨fun h => absurd h.1 (by omega), fun _ => by unfold Tr.upd; split <;> rfl⟩
  | n + 1, k, m + 1, .nd q a l r, h => by
    rw [Tr.sub_one] at h
    cases hf : f k with
    | true =>
      rw [hf] at h
      simp only [if_true] at h
      have ih := Tr.upd_act (g := g) (u' := u') (m := m) h
      have e : Tr.upd f k (n + 1) u' (.nd q a l r) = .nd q a l (Tr.upd f (k + 1) n u' r) := by rw [Tr.upd_one, hf]; rfl
      rw [e, Tr.sub_one, Tr.sub_one]
      cases hg : g k with
      | true =>
        simp only [if_true]
        refine ⟨fun hc => ?_, fun hc => ?_⟩
        · rw [ih.1 ⟨by omega, fun i h1 h2 => hc.2 i (by omega) (by omega)⟩, show k + 1 + n = k + (n + 1) by omega, show m - n = m + 1 - (n + 1) by omega]
        · refine ih.2 fun hx => hc ⟨by omega, fun i h1 h2 => ?_⟩
          by_cases hi : i = k
          · subst hi; rw [hf, hg]
          · exact hx.2 i (by omega) (by omega)
      | false =>
        simp only [Bool.false_eq_true, if_false]
        refine ⟨fun hc => absurd (hc.2 k (Nat.le_refl _) (by omega)) (by rw [hf, hg]; simp), fun _ => trivial⟩
    | false =>
      rw [hf] at h
      simp only [Bool.false_eq_true, if_false] at h
      have ih := Tr.upd_act (g := g) (u' := u') (m := m) h
      have e : Tr.upd f k (n + 1) u' (.nd q a l r) = .nd q a (Tr.upd f (k + 1) n u' l) r := by rw [Tr.upd_one, hf]; rfl
      rw [e, Tr.sub_one, Tr.sub_one]
      cases hg : g k with
      | false =>
        simp only [Bool.false_eq_true, if_false]
        refine ⟨fun hc => ?_, fun hc => ?_⟩
        · rw [ih.1 ⟨by omega, fun i h1 h2 => hc.2 i (by omega) (by omega)⟩, show k + 1 + n = k + (n + 1) by omega, show m - n = m + 1 - (n + 1) by omega]
        · refine ih.2 fun hx => hc ⟨by omega, fun i h1 h2 => ?_⟩
          by_cases hi : i = k
          · subst hi; rw [hf, hg]
          · exact hx.2 i (by omega) (by omega)
      | true =>
        simp only [if_true]
        refine ⟨fun hc => absurd (hc.2 k (Nat.le_refl _) (by omega)) (by rw [hf, hg]; simp), fun _ => trivial⟩

/-! Memory, written. -/

theorem mget_tuple (k : IntKind) (n : Int) (t : AV) (c m : List AV) (b : Nat) : mget (.tuple (.lit (.int k n) :: t :: c) :: m) b = if n = (b : Int) then some c else mget m b := rfl

theorem mget_other {x : AV} (hx : ∀ k n t c, x ≠ .tuple (.lit (.int k n) :: t :: c)) (m : List AV) (b : Nat) : mget (x :: m) b = mget m b := by
  conv => lhs; unfold mget
  split
  · rename_i e; cases e
  · rename_i e; exact absurd (List.cons.inj e).1 (hx _ _ _ _)
  · rename_i e; rw [(List.cons.inj e).2]

theorem mset_other {x : AV} (hx : ∀ k n t c, x ≠ .tuple (.lit (.int k n) :: t :: c)) (m : List AV) (b : Nat) (ds : List AV) : mset (x :: m) b ds = x :: mset m b ds := by
  conv => lhs; unfold mset
  split
  · rename_i e; cases e
  · rename_i e; exact absurd (List.cons.inj e).1 (hx _ _ _ _)
  · rename_i e; rw [(List.cons.inj e).1, (List.cons.inj e).2]

theorem mget_mset {b : Nat} {cs ds : List AV} (b' : Nat) : ∀ {m : List AV}, mget m b = some cs → mget (mset m b ds) b' = if b' = b then some ds else mget m b'
  | [], h => by simp [mget] at h
  | x :: m, h => by
    by_cases hx : ∃ k n t c, x = .tuple (.lit (.int k n) :: t :: c)
    · obtain ⟨k, n, t, c, rfl⟩ := hx
      rw [mget_tuple] at h
      simp only [mset, mget_tuple]
      by_cases hn : n = (b : Int)
      · rw [if_pos hn, mget_tuple]
        by_cases hb : b' = b
        · rw [if_pos hb, if_pos (by omega)]
        · rw [if_neg hb, if_neg (by omega), if_neg (by omega)]
      · rw [if_neg hn] at h ⊢
        rw [mget_tuple, mget_mset b' h]
        by_cases hb : b' = b
        · subst hb; rw [if_neg hn, if_pos rfl, if_pos rfl]
        · rw [if_neg hb, if_neg hb]
    · have hx : ∀ k n t c, x ≠ .tuple (.lit (.int k n) :: t :: c) := fun k n t c e => hx ⟨k, n, t, c, e⟩
      rw [mget_other hx] at h
      rw [mset_other hx, mget_other hx, mget_other hx, mget_mset b' h]

theorem mget_app {l : List AV} (b : Nat) : ∀ m : List AV, mget (m ++ l) b = match mget m b with | some cs => some cs | none => mget l b
  | [] => rfl
  | x :: m => by
    rw [List.cons_append]
    by_cases hx : ∃ k n t c, x = .tuple (.lit (.int k n) :: t :: c)
    · obtain ⟨k, n, t, c, rfl⟩ := hx
      rw [mget_tuple, mget_tuple]
      split
      · rfl
      · exact mget_app b m
    · have hx : ∀ k n t c, x ≠ .tuple (.lit (.int k n) :: t :: c) := fun k n t c e => hx ⟨k, n, t, c, e⟩
      rw [mget_other hx, mget_other hx, mget_app b m]

theorem mget_new (b : Nat) (t : TypeId) (cs : List AV) (b' : Nat) : mget [mblk b t cs] b' = if b' = b then some cs else none := by
  unfold mblk
  rw [mget_tuple]
  by_cases h : b' = b
  · rw [if_pos h, if_pos (by omega)]
  · rw [if_neg h, if_neg (by omega)]; rfl

/-- A cell of a block, written. -/
theorem mwr_get {m : List AV} {q : Addr} {i : Nat} {v : AV} {cs : List AV} (hs : q.spot = none) (h : mget m q.block = some cs) (hl : q.off + i < cs.length) :
    (mwrite m (shift (some q) i) v).isSome = true ∧ ∀ b', mget (mwr m (shift (some q) i) v) b' = if b' = q.block then some (cs.set (q.off + i) v) else mget m b' := by
  have e : mwrite m (shift (some q) i) v = some (mset m q.block (cs.set (q.off + i) v)) := by
    rw [shift_some _ hs]
    unfold mwrite
    simp only [h]
    rw [if_pos hl]
  refine ⟨by rw [e]; rfl, fun b' => ?_⟩
  rw [show mwr m (shift (some q) i) v = mset m q.block (cs.set (q.off + i) v) by unfold mwr; rw [e]; rfl]
  exact mget_mset b' h

theorem mset_head {m : List AV} {b b0 : Nat} {t : TypeId} {ds : List AV} (h : ∃ cs l, m = mblk b0 t cs :: l) : ∃ cs l, mset m b ds = mblk b0 t cs :: l := by
  obtain ⟨cs, l, rfl⟩ := h
  unfold mblk
  simp only [mset]
  split
  · exact ⟨_, _, rfl⟩
  · exact ⟨_, _, rfl⟩

theorem mwr_head {m : List AV} {q : Option Addr} {v : AV} {b0 : Nat} {t : TypeId} (hq : (mwrite m q v).isSome = true) (h : ∃ cs l, m = mblk b0 t cs :: l) : ∃ cs l, mwr m q v = mblk b0 t cs :: l := by
  obtain ⟨es, he⟩ := Option.isSome_iff_exists.1 hq
  rw [show mwr m q v = es by unfold mwr; rw [he]; rfl]
  unfold mwrite at he
  split at he
  · split at he
    · split at he
      · cases he; exact mset_head h
      · cases he
    · cases he
  · cases he

/-- A node's cells, one written. -/
theorem take3_set {cs : List AV} {o i : Nat} {x y z v : AV} (h : (cs.drop o).take 3 = [x, y, z]) : ((cs.set (o + i) v).drop o).take 3 = [x, y, z].set i v := by
  have hx : (cs.set (o + i) v).drop o = (cs.drop o).set i v := by
    rw [List.drop_set, if_neg (by omega)]
    congr 1; omega
  rw [hx, List.take_set, h]

theorem node_write {m : List AV} {q : Addr} {i : Nat} {x y z v : AV} (hs : sure (some q) = true) (h : mread m (some q) true 3 = some (.agg [x, y, z])) (hi : i < 3) :
    (mwrite m (shift (some q) i) v).isSome = true ∧ mread (mwr m (shift (some q) i) v) (some q) true 3 = some (.agg ([x, y, z].set i v)) ∧ ∀ b', b' ≠ q.block → mget (mwr m (shift (some q) i) v) b' = mget m b' := by
  obtain ⟨cs, h1, h2, h3⟩ := node_cells hs h
  have e := sure_some' hs
  obtain ⟨g1, g2⟩ := mwr_get (v := v) (i := i) e h1 (by omega)
  refine ⟨g1, ?_, fun b' hb => by rw [g2, if_neg hb]⟩
  obtain ⟨b, o, s⟩ := q
  cases (e : s = none)
  unfold mread
  dsimp only at g2 ⊢
  rw [g2, if_pos rfl]
  dsimp only
  rw [if_pos (by rw [List.length_set]; exact h2), take3_set h3]

end Go.Sx.M
end

section
/-
  Layer 7: contracts of the program's calls on a trie's nodes: grow.
-/
namespace Go.Sx.M
open Go.Proofs.Ytfpofdlpgocnlaa.L1

/-- A trie's value in memory, whatever its routes are. -/
structure TrB (w : Int) (b : Nat) (len nds : Int) (t : Tr) (m : List AV) : Prop where
  val : ∃ x y z, mget m b = some [.int .i64 w, x, y, z, .int .i64 len, .int .i64 nds]
  root : ∃ act l r, t = .nd ⟨b, 1, none⟩ act l r ∧ l.flat ∧ r.flat
  lies : t.lies m
  apart : t.blks.Nodup
  head : ∃ ty cs l, m = mblk b ty cs :: l

/-- All below is full. -/
def Tr.cfull : Tr → Prop
  | .nil => True
  | .nd _ _ l r => l.full ∧ r.full

theorem Tr.full_c {t : Tr} (h : t.full) : t.cfull := by
  cases t with
  | nil => trivial
  | nd => exact h.2

/-- Full, but for the nodes on a way. -/
def Tr.fullX (f : Nat → Bool) : Nat → Nat → Tr → Prop
  | _, 0, t => t ≠ .nil ∧ t.cfull
  | _, _ + 1, .nil => False
  | k, n + 1, .nd _ _ l r => if f k then l.full ∧ Tr.fullX f (k + 1) n r else r.full ∧ Tr.fullX f (k + 1) n l

theorem Tr.fullX_one {f : Nat → Bool} {k n : Nat} {q : Addr} {a : Int} {l r : Tr} : Tr.fullX f k (n + 1) (.nd q a l r) = if f k then l.full ∧ Tr.fullX f (k + 1) n r else r.full ∧ Tr.fullX f (k + 1) n l := rfl

theorem TrV.b {w : Int} {b : Nat} {len nds : Int} {t : Tr} {m : List AV} (h : TrV w b len nds t m) : TrB w b len nds t m :=
  ⟨h.val, let ⟨a, l, r, e, f1, f2, _⟩ := h.root; ⟨a, l, r, e, f1, f2⟩, h.lies, h.apart, h.head⟩

theorem TrV.cfull {w : Int} {b : Nat} {len nds : Int} {t : Tr} {m : List AV} (h : TrV w b len nds t m) : t.cfull := by
  obtain ⟨a, l, r, rfl, _, _, g1, g2⟩ := h.root
  exact ⟨g1, g2⟩

theorem TrB.v {w : Int} {b : Nat} {len nds : Int} {t : Tr} {m : List AV} (h : TrB w b len nds t m) (hc : t.cfull) (hl : len = ((t.list 0#64 0#64 0).length : Int)) (hn : nds = (t.size : Int)) : TrV w b len nds t m := by
  obtain ⟨a, l, r, rfl, f1, f2⟩ := h.root
  exact ⟨h.val, ⟨a, l, r, rfl, f1, f2, hc.1, hc.2⟩, h.lies, h.apart, hl, hn, h.head⟩

theorem TrB.ptr {w : Int} {nb : Nat} {len nds : Int} {t : Tr} {m : List AV} (h : TrB w nb len nds t m) : t.ptr = some ⟨nb, 1, none⟩ := by
  obtain ⟨act, l, r, rfl, _⟩ := h.root
  rfl

theorem TrB.mem {w : Int} {b : Nat} {len nds : Int} {t : Tr} {m : List AV} (h : TrB w b len nds t m) : b ∈ t.blks := by
  obtain ⟨act, l, r, rfl, _⟩ := h.root
  exact List.mem_cons_self

theorem Tr.lies_mem {m : List AV} : ∀ {t : Tr} {b : Nat}, t.lies m → b ∈ t.blks → ∃ cs, mget m b = some cs
  | .nil, _, _, h => by cases h
  | .nd q a l r, b, ⟨h1, h2, h3, h4⟩, h => by
    rw [Tr.blks_nd] at h
    rcases List.mem_cons.1 h with rfl | h
    · obtain ⟨cs, hc, _⟩ := node_cells h2 h1; exact ⟨cs, hc⟩
    · exact (List.mem_append.1 h).elim (Tr.lies_mem h3) (Tr.lies_mem h4)

/-- The trie's value, one of its numbers written: its root stands. -/
theorem TrB.field {w : Int} {b : Nat} {len nds : Int} {t : Tr} {m : List AV} (h : TrB w b len nds t m) {i : Nat} (hi : i = 4 ∨ i = 5) (x : Int) :
    (mwrite m (shift (some ⟨b, 0, none⟩) i) (.int .i64 x)).isSome = true ∧ (∃ x1 y z, mget (mwr m (shift (some ⟨b, 0, none⟩) i) (.int .i64 x)) b = some [.int .i64 w, x1, y, z, .int .i64 (if i = 4 then x else len), .int .i64 (if i = 5 then x else nds)]) ∧
      t.lies (mwr m (shift (some ⟨b, 0, none⟩) i) (.int .i64 x)) ∧ ∃ ty cs l, mwr m (shift (some ⟨b, 0, none⟩) i) (.int .i64 x) = mblk b ty cs :: l := by
  obtain ⟨x1, y, z, hv⟩ := h.val
  obtain ⟨g1, g2⟩ := mwr_get (q := ⟨b, 0, none⟩) (i := i) (v := .int .i64 x) rfl hv (by rcases hi with rfl | rfl <;> simp)
  obtain ⟨ty, cs, l, hm⟩ := h.head
  obtain ⟨cs', l', hm'⟩ := mwr_head g1 ⟨cs, l, hm⟩
  refine ⟨g1, ⟨x1, y, z, ?_⟩, ?_, ty, cs', l', hm'⟩
  · have := g2 b
    rw [if_pos rfl] at this
    rw [this]
    rcases hi with rfl | rfl <;> rfl
  · obtain ⟨act, lt, rt, rfl, _⟩ := h.root
    obtain ⟨l1, l2, l3, l4⟩ := h.lies
    obtain ⟨⟨n1, n2⟩, n3, n4, n5⟩ := nd_nodup.1 h.apart
    have same : ∀ b', b' ≠ b → mget (mwr m (shift (some ⟨b, 0, none⟩) i) (.int .i64 x)) b' = mget m b' := fun b' hb => by rw [g2, if_neg hb]
    refine ⟨?_, l2, Tr.lies_of (fun b' hb => same b' fun e => n1 (e ▸ hb)) l3, Tr.lies_of (fun b' hb => same b' fun e => n2 (e ▸ hb)) l4⟩
    have hc := node_cells rfl l1
    obtain ⟨cs0, c1, _, c3⟩ := hc
    dsimp only at c1 c3
    rw [hv] at c1
    cases c1
    have := g2 b
    rw [if_pos rfl] at this
    unfold mread
    dsimp only
    rw [this]
    rcases hi with rfl | rfl
    · show some (AV.agg (List.take 3 (List.drop 1 [AV.int .i64 w, x1, y, z, _, _]))) = _
      exact congrArg (fun l => some (AV.agg l)) c3
    · show some (AV.agg (List.take 3 (List.drop 1 [AV.int .i64 w, x1, y, z, _, _]))) = _
      exact congrArg (fun l => some (AV.agg l)) c3

/-- Behind i steps of grow; t0: the tree at its beginning. -/
structure GrI (w : Int) (b : Nat) (len nds : Int) (f : Nat → Bool) (t0 : Tr) (i : Nat) (t : Tr) (m : List AV) : Prop where
  base : TrB w b len nds t m
  size : nds = (t.size : Int)
  ok : t.ok 0
  here : Tr.sub f 0 i t ≠ .nil
  full : Tr.fullX f 0 i t
  acts : ∀ g n, (Tr.sub g 0 n t).act = (Tr.sub g 0 n t0).act

theorem Tr.fullX_old {f : Nat → Bool} : ∀ {i k : Nat} {t : Tr}, Tr.fullX f k i t → Tr.sub f k (i + 1) t ≠ .nil → Tr.fullX f k (i + 1) t
  | 0, k, .nil, h, _ => absurd rfl h.1
  | 0, k, .nd q a l r, h, hn => by
    rw [Tr.sub_one] at hn
    unfold Tr.fullX
    cases hf : f k with
    | true => rw [hf] at hn; exact ⟨h.2.1, hn, Tr.full_c h.2.2⟩
    | false => rw [hf] at hn; exact ⟨h.2.2, hn, Tr.full_c h.2.1⟩
  | i + 1, k, .nil, h, _ => h.elim
  | i + 1, k, .nd q a l r, h, hn => by
    rw [Tr.sub_one] at hn
    unfold Tr.fullX at h ⊢
    cases hf : f k with
    | true => rw [hf] at h hn; exact ⟨h.1, Tr.fullX_old h.2 hn⟩
    | false => rw [hf] at h hn; exact ⟨h.1, Tr.fullX_old h.2 hn⟩

/-- A node, with a new one below it. -/
def Tr.child (s : Bool) (nb : Nat) : Tr → Tr
  | .nil => .nil
  | .nd q a l r => if s then .nd q a l (.nd ⟨nb, 0, none⟩ 0 .nil .nil) else .nd q a (.nd ⟨nb, 0, none⟩ 0 .nil .nil) r

theorem Tr.sub_upd {f : Nat → Bool} {u' : Tr} : ∀ {n k m : Nat} {t : Tr}, Tr.sub f k n t ≠ .nil → Tr.sub f k (n + m) (Tr.upd f k n u' t) = Tr.sub f (k + n) m u' := fun {n k m t} h => by
  have := (Tr.upd_act (f := f) (g := f) (u' := u') (m := n + m) h).1 ⟨by omega, fun _ _ _ => rfl⟩
  rw [show n + m - n = m by omega] at this
  exact this

theorem Tr.fullX_new {f : Nat → Bool} {nb : Nat} : ∀ {i k : Nat} {t : Tr}, Tr.fullX f k i t → Tr.sub f k (i + 1) t = .nil → Tr.fullX f k (i + 1) (Tr.upd f k i ((Tr.sub f k i t).child (f (k + i)) nb) t)
  | 0, k, .nil, h, _ => absurd rfl h.1
  | 0, k, .nd q a l r, h, hn => by
    rw [Tr.sub_one] at hn
    show Tr.fullX f k 1 (Tr.child (f (k + 0)) nb (.nd q a l r))
    rw [Nat.add_zero]
    cases hf : f k with
    | true =>
      show Tr.fullX f k 1 (.nd q a l (.nd ⟨nb, 0, none⟩ 0 .nil .nil))
      rw [Tr.fullX_one, if_pos hf]
      exact ⟨h.2.1, (fun e => by cases e), trivial, trivial⟩
    | false =>
      show Tr.fullX f k 1 (.nd q a (.nd ⟨nb, 0, none⟩ 0 .nil .nil) r)
      rw [Tr.fullX_one, if_neg (by rw [hf]; simp)]
      exact ⟨h.2.2, (fun e => by cases e), trivial, trivial⟩
  | i + 1, k, .nil, h, _ => h.elim
  | i + 1, k, .nd q a l r, h, hn => by
    rw [Tr.sub_one] at hn
    rw [Tr.sub_one]
    unfold Tr.fullX at h
    unfold Tr.upd
    rw [show k + (i + 1) = k + 1 + i by omega]
    cases hf : f k with
    | true =>
      rw [hf] at h hn
      simp only [if_true] at h hn ⊢
      unfold Tr.fullX
      rw [if_pos hf]
      exact ⟨h.1, Tr.fullX_new h.2 hn⟩
    | false =>
      rw [hf] at h hn
      simp only [Bool.false_eq_true, if_false] at h hn ⊢
      unfold Tr.fullX
      rw [hf]
      exact ⟨h.1, Tr.fullX_new h.2 hn⟩

theorem sub_next (f : Nat → Bool) (i : Nat) (t : Tr) : Tr.sub f i 1 (Tr.sub f 0 i t) = Tr.sub f 0 (i + 1) t := by
  have := Tr.sub_succ f 0 i t
  rw [Nat.zero_add] at this
  exact this.symm

theorem GrI.old {w : Int} {b : Nat} {len nds : Int} {f : Nat → Bool} {t0 : Tr} {i : Nat} {t : Tr} {m : List AV} (h : GrI w b len nds f t0 i t m) (hn : Tr.sub f 0 (i + 1) t ≠ .nil) : GrI w b len nds f t0 (i + 1) t m :=
  ⟨h.base, h.size, h.ok, hn, Tr.fullX_old h.full hn, h.acts⟩

theorem Tr.sub_flat {f : Nat → Bool} : ∀ {n k : Nat} {t : Tr}, t.flat → (Tr.sub f k n t).flat
  | 0, _, _, h => h
  | n + 1, k, .nil, h => by rw [Tr.sub_nil]; exact h
  | n + 1, k, .nd q a l r, h => by
    rw [Tr.sub_one]
    refine Tr.sub_flat ?_
    split
    · exact h.2.2
    · exact h.2.1

theorem Tr.sub_nodup {f : Nat → Bool} : ∀ {n k : Nat} {t : Tr}, t.blks.Nodup → (Tr.sub f k n t).blks.Nodup
  | 0, _, _, h => h
  | n + 1, k, .nil, h => by rw [Tr.sub_nil]; exact h
  | n + 1, k, .nd q a l r, h => by
    obtain ⟨_, h3, h4, _⟩ := nd_nodup.1 h
    rw [Tr.sub_one]
    refine Tr.sub_nodup ?_
    split
    · exact h4
    · exact h3

/-- The value's own block, where a node is written. -/
theorem TrB.val_write {w : Int} {b : Nat} {len nds : Int} {t : Tr} {m : List AV} (h : TrB w b len nds t m) {f : Nat → Bool} {i : Nat} {q : Addr} {a : Int} {l r : Tr} (hu : Tr.sub f 0 i t = .nd q a l r) {j : Nat} (hj : j < 3) {v : AV} :
    ∃ x y z, mget (mwr m (shift (some q) j) v) b = some [.int .i64 w, x, y, z, .int .i64 len, .int .i64 nds] := by
  obtain ⟨x, y, z, hv⟩ := h.val
  have hl := Tr.lies_sub f i 0 t h.lies
  rw [hu] at hl
  obtain ⟨cs, c1, c2, _⟩ := node_cells hl.2.1 hl.1
  obtain ⟨_, g2⟩ := mwr_get (v := v) (i := j) (sure_some' hl.2.1) c1 (by omega)
  obtain ⟨act, lt, rt, rfl, _⟩ := h.root
  cases i with
  | zero =>
    cases hu
    have g := g2 b
    dsimp only at g c1
    rw [if_pos rfl] at g
    rw [hv] at c1
    cases c1
    rw [g]
    have : j = 0 ∨ j = 1 ∨ j = 2 := by omega
    rcases this with rfl | rfl | rfl
    · exact ⟨_, _, _, rfl⟩
    · exact ⟨_, _, _, rfl⟩
    · exact ⟨_, _, _, rfl⟩
  | succ i =>
    obtain ⟨⟨n1, n2⟩, _⟩ := nd_nodup.1 h.apart
    have hne : b ≠ q.block := fun e => by
      have hm : q.block ∈ (Tr.sub f 0 (i + 1) (.nd ⟨b, 1, none⟩ act lt rt)).blks := by rw [hu]; exact List.mem_cons_self
      rw [Tr.sub_one] at hm
      have := Tr.sub_blks hm
      rw [← e] at this
      split at this
      · exact n2 this
      · exact n1 this
    rw [g2, if_neg hne]
    exact ⟨x, y, z, hv⟩

/-- Another node in the place of one. -/
theorem TrB.turn {w : Int} {b : Nat} {len nds : Int} {t : Tr} {m m' : List AV} (h : TrB w b len nds t m) {f : Nat → Bool} {i : Nat} {q : Addr} {a a' : Int} {l r l' r' : Tr} (hu : Tr.sub f 0 i t = .nd q a l r) (hl : (Tr.nd q a' l' r').lies m')
    (hm : ∀ b' ∈ t.blks, b' ∉ (Tr.nd q a l r).blks → mget m' b' = mget m b') (hv : ∃ x y z, mget m' b = some [.int .i64 w, x, y, z, .int .i64 len, .int .i64 nds]) (hh : ∃ ty cs l, m' = mblk b ty cs :: l)
    (hn : (Tr.nd q a' l' r').blks.Nodup) (hb : ∀ b' ∈ (Tr.nd q a' l' r').blks, b' ∈ (Tr.nd q a l r).blks ∨ b' ∉ t.blks) (hf : l.flat → r.flat → l'.flat ∧ r'.flat) : TrB w b len nds (Tr.upd f 0 i (.nd q a' l' r') t) m' := by
  refine ⟨hv, ?_, Tr.upd_lies hl h.lies h.apart (by rw [hu]; rfl) (by rw [hu]; exact hm), Tr.upd_nodup h.apart hn (by rw [hu]; exact hb), hh⟩
  obtain ⟨act, lt, rt, rfl, f1, f2⟩ := h.root
  cases i with
  | zero =>
    cases hu
    obtain ⟨g1, g2⟩ := hf f1 f2
    exact ⟨_, _, _, rfl, g1, g2⟩
  | succ i =>
    rw [Tr.sub_one] at hu
    have hfl : (Tr.nd q a l r).flat := by
      rw [← hu]
      refine Tr.sub_flat ?_
      split
      · exact f2
      · exact f1
    have hfl' : (Tr.nd q a' l' r').flat := ⟨hfl.1, hf hfl.2.1 hfl.2.2⟩
    rw [Tr.upd_one]
    split
    · exact ⟨_, _, _, rfl, f1, Tr.upd_flat f2 hfl'⟩
    · exact ⟨_, _, _, rfl, Tr.upd_flat f1 hfl', f2⟩

theorem Tr.child_act {g : Nat → Bool} {k j : Nat} {s : Bool} {c : Nat} {q : Addr} {a : Int} {l r : Tr} (h : (if s then r else l) = .nil) : (Tr.sub g k j (Tr.child s c (.nd q a l r))).act = (Tr.sub g k j (.nd q a l r)).act := by
  have leaf : ∀ k j, (Tr.sub g k j (.nd ⟨c, 0, none⟩ 0 .nil .nil)).act = 0 := by
    intro k j
    cases j with
    | zero => rfl
    | succ j =>
      rw [Tr.sub_one]
      split <;> rw [Tr.sub_nil] <;> rfl
  cases j with
  | zero => cases s <;> rfl
  | succ j =>
    cases s with
    | true =>
      have h : r = .nil := h
      subst h
      show (Tr.sub g k (j + 1) (.nd q a l (.nd ⟨c, 0, none⟩ 0 .nil .nil))).act = _
      rw [Tr.sub_one, Tr.sub_one]
      split
      · rw [leaf, Tr.sub_nil]; rfl
      · rfl
    | false =>
      have h : l = .nil := h
      subst h
      show (Tr.sub g k (j + 1) (.nd q a (.nd ⟨c, 0, none⟩ 0 .nil .nil) r)).act = _
      rw [Tr.sub_one, Tr.sub_one]
      split
      · rfl
      · rw [leaf, Tr.sub_nil]; rfl

/-- A new node below the way's last one. -/
theorem GrI.new {w : Int} {b : Nat} {len nds : Int} {f : Nat → Bool} {t0 : Tr} {i : Nat} {t : Tr} {m : List AV} (h : GrI w b len nds f t0 i t m) (hi : i < 128) (hn : Tr.sub f 0 (i + 1) t = .nil) {c : Nat} (hc : mget m c = none) {ty : TypeId} {s : Nat} (hs : s = if f i then 1 else 0)
    {m1 m2 m3 : List AV} (e1 : m1 = m ++ [mblk c ty [.val (.pointer none), .val (.pointer none), .int .i64 0]]) (e2 : m2 = mwr m1 (shift (shift (Tr.sub f 0 i t).ptr 0) s) (.val (.pointer (some ⟨c, 0, none⟩)))) (e3 : m3 = mwr m2 (shift (some ⟨b, 0, none⟩) 5) (.int .i64 (nds + 1))) :
    (mwrite m1 (shift (shift (Tr.sub f 0 i t).ptr 0) s) (.val (.pointer (some ⟨c, 0, none⟩)))).isSome = true ∧ mread m2 (shift (some ⟨b, 0, none⟩) 5) false 1 = some (.int .i64 nds) ∧ (mwrite m2 (shift (some ⟨b, 0, none⟩) 5) (.int .i64 (nds + 1))).isSome = true ∧
      mread m3 (shift (shift (Tr.sub f 0 i t).ptr 0) s) false 1 = some (.val (.pointer (some ⟨c, 0, none⟩))) ∧ ∃ t', GrI w b len (nds + 1) f t0 (i + 1) t' m3 ∧ (Tr.sub f 0 (i + 1) t').ptr = some ⟨c, 0, none⟩ := by
  obtain ⟨hB, hsz, hok, hne, hfx, hact⟩ := h
  cases hu : Tr.sub f 0 i t with
  | nil => exact absurd hu hne
  | nd q a l r =>
  have hlu := Tr.lies_sub f i 0 t hB.lies
  rw [hu] at hlu
  have hcn : c ∉ t.blks := fun hm => by obtain ⟨cs, e⟩ := Tr.lies_mem hB.lies hm; rw [hc] at e; cases e
  have hchild : (if f i then r else l) = .nil := by
    have := sub_next f i t
    rw [hu, Tr.sub_one, hn] at this
    exact this
  have hublk : ∀ b' ∈ (Tr.nd q a l r).blks, b' ∈ t.blks := fun b' hb' => Tr.sub_blks (f := f) (n := i) (k := 0) (by rw [hu]; exact hb')
  have hund : (Tr.nd q a l r).blks.Nodup := by rw [← hu]; exact Tr.sub_nodup hB.apart
  obtain ⟨⟨n1, n2⟩, n3, n4, n5⟩ := nd_nodup.1 hund
  -- with the new block
  have g1 : ∀ b', b' ≠ c → mget m1 b' = mget m b' := fun b' hb => by
    rw [e1, mget_app]
    cases hx : mget m b' with
    | some cs => rfl
    | none => rw [mget_new, if_neg hb]
  have gc : mget m1 c = some [.val (.pointer none), .val (.pointer none), .int .i64 0] := by rw [e1, mget_app, hc]; simp only; rw [mget_new, if_pos rfl]
  have hB1 : TrB w b len nds t m1 := by
    obtain ⟨x, y, z, hv⟩ := hB.val
    obtain ⟨ty0, cs0, l0, hh⟩ := hB.head
    exact ⟨⟨x, y, z, (g1 b fun e => hcn (e ▸ hB.mem)).trans hv⟩, hB.root, Tr.lies_of (fun b' hb => g1 b' fun e => hcn (e ▸ hb)) hB.lies, hB.apart, ty0, cs0, _, by rw [e1, hh]; rfl⟩
  have hl1 : (Tr.nd q a l r).lies m1 := Tr.lies_of (fun b' hb => g1 b' fun e => hcn (e ▸ hublk b' hb)) hlu
  have hs3 : s < 3 := by rw [hs]; split <;> omega
  have hptr : shift (shift (Tr.nd q a l r).ptr 0) s = shift (some q) s := by rw [shift_shift, Nat.zero_add]; rfl
  rw [hu, hptr] at e2
  obtain ⟨w1, w2, w3⟩ := node_write (v := .val (.pointer (some ⟨c, 0, none⟩))) hl1.2.1 hl1.1 hs3
  rw [← e2] at w2 w3
  have hcq : c ≠ q.block := fun e => hcn (hublk c (e ▸ List.mem_cons_self))
  have hleaf : ∀ m', mget m' c = some [.val (.pointer none), .val (.pointer none), .int .i64 0] → (Tr.nd ⟨c, 0, none⟩ 0 .nil .nil).lies m' := fun m' h => ⟨by unfold mread; simp only [h]; rfl, rfl, trivial, trivial⟩
  have hc2 : mget m2 c = some [.val (.pointer none), .val (.pointer none), .int .i64 0] := (w3 c hcq).trans gc
  obtain ⟨x, y, z, hv2⟩ := hB1.val_write (f := f) (i := i) hu hs3 (v := .val (.pointer (some ⟨c, 0, none⟩)))
  rw [← e2] at hv2
  obtain ⟨ty0, cs0, l0, hh1⟩ := hB1.head
  obtain ⟨cs2, l2, hh2⟩ := mwr_head w1 ⟨cs0, l0, hh1⟩
  rw [← e2] at hh2
  -- the tree, with the new node
  obtain ⟨l', r', hch, hlies', hflat', hblk', hnd'⟩ : ∃ l' r', Tr.child (f i) c (.nd q a l r) = .nd q a l' r' ∧ (Tr.nd q a l' r').lies m2 ∧ (l.flat → r.flat → l'.flat ∧ r'.flat) ∧ (∀ b' ∈ (Tr.nd q a l' r').blks, b' ∈ (Tr.nd q a l r).blks ∨ b' ∉ t.blks) ∧ (Tr.nd q a l' r').blks.Nodup := by
    have hl2 : l.lies m2 := Tr.lies_of (fun b' hb => w3 b' fun e => n1 (e ▸ hb)) hl1.2.2.1
    have hr2 : r.lies m2 := Tr.lies_of (fun b' hb => w3 b' fun e => n2 (e ▸ hb)) hl1.2.2.2
    cases hf : f i with
    | true =>
      rw [hf] at hchild hs
      have hs : s = 1 := hs
      have hr : r = .nil := hchild
      subst hs; subst hr
      refine ⟨l, .nd ⟨c, 0, none⟩ 0 .nil .nil, rfl, ⟨w2, hl1.2.1, hl2, hleaf m2 hc2⟩, fun h1 _ => ⟨h1, rfl, trivial, trivial⟩, fun b' hb => ?_, nd_nodup.2 ⟨⟨n1, fun h => hcq (by have := List.mem_singleton.1 h; exact this.symm)⟩, n3, by simp [Tr.blks], fun b' hb h => hcn (hublk c (by have := List.mem_singleton.1 h; subst this; exact List.mem_cons_of_mem _ (List.mem_append_left _ hb)))⟩⟩
      rw [Tr.blks_nd] at hb ⊢
      rcases List.mem_cons.1 hb with rfl | hb
      · exact .inl List.mem_cons_self
      · rcases List.mem_append.1 hb with hb | hb
        · exact .inl (List.mem_cons_of_mem _ (List.mem_append_left _ hb))
        · have := List.mem_singleton.1 hb; subst this; exact .inr hcn
    | false =>
      rw [hf] at hchild hs
      have hs : s = 0 := hs
      have hr : l = .nil := hchild
      subst hs; subst hr
      refine ⟨.nd ⟨c, 0, none⟩ 0 .nil .nil, r, rfl, ⟨w2, hl1.2.1, hleaf m2 hc2, hr2⟩, fun _ h2 => ⟨⟨rfl, trivial, trivial⟩, h2⟩, fun b' hb => ?_, nd_nodup.2 ⟨⟨fun h => hcq (by have := List.mem_singleton.1 h; exact this.symm), n2⟩, by simp [Tr.blks], n4, fun b' h hb => hcn (hublk c (by have := List.mem_singleton.1 h; subst this; exact List.mem_cons_of_mem _ (List.mem_append_right _ hb)))⟩⟩
      rw [Tr.blks_nd] at hb ⊢
      rcases List.mem_cons.1 hb with rfl | hb
      · exact .inl List.mem_cons_self
      · rcases List.mem_append.1 hb with hb | hb
        · have := List.mem_singleton.1 hb; subst this; exact .inr hcn
        · exact .inl (List.mem_cons_of_mem _ (List.mem_append_right _ hb))
  have hB2 : TrB w b len nds (Tr.upd f 0 i (.nd q a l' r') t) m2 := hB1.turn hu hlies' (fun b' _ hb => w3 b' fun e => hb (e ▸ List.mem_cons_self)) ⟨x, y, z, hv2⟩ ⟨ty0, cs2, l2, hh2⟩ hnd' hblk' hflat'
  have hne' : Tr.sub f 0 i t ≠ .nil := by rw [hu]; exact fun e => by cases e
  obtain ⟨k1, ⟨x3, y3, z3, k2⟩, k3, k4⟩ := hB2.field (.inr rfl) (nds + 1)
  rw [← e3] at k2 k3 k4
  have hsub1 : Tr.sub f 0 (i + 1) (Tr.upd f 0 i (.nd q a l' r') t) = .nd ⟨c, 0, none⟩ 0 .nil .nil := by
    rw [Tr.sub_upd hne', Nat.zero_add, ← hch]
    unfold Tr.child
    cases hf : f i with
    | true => show Tr.sub f i 1 (.nd q a l (.nd ⟨c, 0, none⟩ 0 .nil .nil)) = _; rw [Tr.sub_one, hf]; rfl
    | false => show Tr.sub f i 1 (.nd q a (.nd ⟨c, 0, none⟩ 0 .nil .nil) r) = _; rw [Tr.sub_one, hf]; rfl
  refine ⟨by rw [hptr]; exact w1, ?_, k1, ?_, Tr.upd f 0 i (.nd q a l' r') t, ⟨⟨⟨x3, y3, z3, k2⟩, hB2.root, k3, hB2.apart, k4⟩, ?_, ?_, (by rw [hsub1]; exact fun e => by cases e), ?_, ?_⟩, by rw [hsub1]; rfl⟩
  · show mread m2 (some ⟨b, 0 + 5, none⟩) false 1 = _
    unfold mread
    simp only [hv2]
    rfl
  · have h3 : (Tr.sub f 0 i (Tr.upd f 0 i (.nd q a l' r') t)).lies m3 := Tr.lies_sub f i 0 _ k3
    have h4 : Tr.sub f 0 i (Tr.upd f 0 i (.nd q a l' r') t) = .nd q a l' r' := by
      have := Tr.sub_upd (u' := .nd q a l' r') (m := 0) hne'
      rwa [Nat.add_zero] at this
    rw [h4] at h3
    have := Tr.step_read h3 (fun e => by cases e) f i
    rw [show Tr.sub f i 1 (.nd q a l' r') = .nd ⟨c, 0, none⟩ 0 .nil .nil by rw [← hsub1, ← sub_next, h4], ← hs] at this
    exact this
  · have := Tr.upd_size (u' := .nd q a l' r') hne'
    have e5 : (Tr.nd q a l' r').size = (Tr.nd q a l r).size + 1 := by
      rw [← hch]
      unfold Tr.child
      cases hf : f i with
      | true => rw [hf] at hchild; have hr : r = .nil := hchild; subst hr; simp [Tr.size]
      | false => rw [hf] at hchild; have hr : l = .nil := hchild; subst hr; simp [Tr.size]; omega
    rw [hu] at this
    rw [hsz]
    omega
  · have hou := Tr.ok_sub (f := f) i 0 t hok
    rw [hu, Nat.zero_add] at hou
    refine Tr.upd_ok hok ?_
    rw [Nat.zero_add, ← hch]
    cases f i with
    | true => exact ⟨hou.1, hou.2.1, by omega, trivial, trivial⟩
    | false => exact ⟨hou.1, ⟨by omega, trivial, trivial⟩, hou.2.2⟩
  · have := Tr.fullX_new (nb := c) hfx hn
    rw [hu, Nat.zero_add, hch] at this
    exact this
  · intro g n
    rw [← hact g n]
    have hA := Tr.upd_act (f := f) (g := g) (u' := .nd q a l' r') (m := n) hne'
    by_cases hp : i ≤ n ∧ ∀ j, 0 ≤ j → j < 0 + i → g j = f j
    · rw [hA.1 hp, Nat.zero_add, ← hch, Tr.child_act hchild]
      have : Tr.sub g 0 n t = Tr.sub g i (n - i) (Tr.nd q a l r) := by
        rw [show n = i + (n - i) by omega, Tr.sub_add, Nat.zero_add, Tr.sub_congr (f := g) (g := f) i 0 t hp.2, hu, show i + (n - i) - i = n - i by omega]
      rw [this]
    · rw [hA.2 hp]

end Go.Sx.M
namespace Go.Proofs.Ytfpofdlpgocnlaa.L1
open Go.Sx Go.Sx.M

def growF : List AV → List Arg → (List AV → AV → Prop) → Prop
  | m, [.v (.val (.pointer q)), .v (.agg [.w64 a, .w64 b, .int .i64 k])], R => ∃ (w : Int) (nb : Nat) (len nds : Int) (t : Tr), TrB w nb len nds t m ∧ t.cfull ∧ nds = (t.size : Int) ∧ t.ok 0 ∧ q = some ⟨nb, 0, none⟩ ∧ 0 ≤ k ∧ k ≤ 128 ∧ nds ≤ 1000000 ∧
      ∀ m' t' nds', GrI w nb len nds' (bitAt a b) t k.toNat t' m' → R m' (.val (.pointer (Tr.sub (bitAt a b) 0 k.toNat t').ptr))
  | _, _, _ => False

/-- A state of the loop: the memory, the tree, how many nodes there are. -/
abbrev GrP := Nat × List AV × Tr × Int

def grSt (nb : Nat) (a b : BitVec 64) (k : Int) (p : GrP) : St :=
  ⟨[.val (.pointer (some ⟨nb, 0, none⟩)), .any, .any, .ptr 1 0 0 true, .any, .val (.pointer (Tr.sub (bitAt a b) 0 p.1 p.2.2.1).ptr), .any, .any, .any, .any, .any, .any, .int .i64 k, .int .i64 p.1, .any, .any, .any, .any, .any, .any, .any, .any, .any, .any, .any, .any, .any, .any, .any, .any, .any, .any, .any, .any, .any, .any, .any, .any, .any, .any, .any, .any, .any, .any, .any, .any, .any, .any], [some ⟨true, memTy, 0, true, p.2.1⟩, some ⟨true, 39, 3, true, [.agg [.w64 a, .w64 b, .int .i64 k]]⟩]⟩
def grM0 : Modes := ⟨[1, 0, 0, 1, 0, 2, 0, 0, 0, 0, 0, 0, 2, 2, 0, 0, 0, 0, 0, 0, 0, 0, 0, 0, 0, 0, 0, 0, 0, 0, 0, 0, 0, 0, 0, 0, 0, 0, 0, 0, 0, 0, 0, 0, 0, 0, 0, 0], [], [], [], []⟩
def grM : Modes := ⟨[1, 0, 0, 1, 0, 1, 0, 0, 0, 0, 0, 0, 1, 1, 0, 0, 0, 0, 0, 0, 0, 0, 0, 0, 0, 0, 0, 0, 0, 0, 0, 0, 0, 0, 0, 0, 0, 0, 0, 0, 0, 0, 0, 0, 0, 0, 0, 0], [], [], [], []⟩
def grM' : Modes := ⟨[0, 0, 0, 0, 0, 1, 0, 0, 0, 0, 0, 0, 0, 0, 0, 0, 0, 0, 0, 0, 0, 0, 0, 0, 0, 0, 0, 0, 0, 0, 0, 0, 0, 0, 0, 0, 0, 0, 0, 0, 0, 0, 0, 0, 0, 0, 0, 0], [], [], [], []⟩
def grH (nb : Nat) (m : List AV) (t : Tr) (nds : Int) (a b : BitVec 64) (k : Int) (I : GrP → Prop) : List Hint := [.linv GrP (0, m, t, nds) (grSt nb a b k) I (fun p => k.toNat + 1 - p.1) grM0 grM grM' (fun _ => []) fun p =>
  [.fork [.dy, .cell (.val (.pointer (Tr.sub (bitAt a b) 0 (p.1 + 1) p.2.2.1).ptr)), .fork [.new fun c => [.dy, .cell (.int .i64 p.2.2.2), .nw, .dy, .cell (.val (.pointer (some ⟨c, 0, none⟩))), .nw]] [.dy, .cell (.val (.pointer (Tr.sub (bitAt a b) 0 (p.1 + 1) p.2.2.1).ptr)), .nw]] []]]

noncomputable def grCs : List (FuncId × Sx.Spec) := [(63, genSpec [none, none] sideF)]

theorem grow_run (nb : Nat) (m : List AV) (t : Tr) (nds : Int) (a b : BitVec 64) (k : Int) (I : GrP → Prop) (R : List AV → AV → Prop) : run grCs Try.prog 53 [.val (.pointer (some ⟨nb, 0, none⟩)), .agg [.w64 a, .w64 b, .int .i64 k]] [some ⟨true, memTy, 0, true, m⟩] (grH nb m t nds a b k I) (turnsR R) =
    (Option.isSome (some (Addr.mk nb (0 : Nat) none)) = true ∧ sure (some (Addr.mk nb (0 : Nat) none)) = true ∧ (St.mk [AV.val (Value.pointer (some (Addr.mk nb (0 : Nat) none))), AV.any, AV.any, AV.ptr ((0 : Nat) + (1 : Nat)) (0 : Nat) (0 : Nat) true, AV.any, AV.val (Value.pointer (shift (some (Addr.mk nb (0 : Nat) none)) (1 : Nat))), AV.any, AV.any, AV.any, AV.any, AV.any, AV.any, AV.int IntKind.i64 k, AV.int IntKind.i64 (0 : Int), AV.any, AV.any, AV.any, AV.any, AV.any, AV.any, AV.any, AV.any, AV.any, AV.any, AV.any, AV.any, AV.any, AV.any, AV.any, AV.any, AV.any, AV.any, AV.any, AV.any, AV.any, AV.any, AV.any, AV.any, AV.any, AV.any, AV.any, AV.any, AV.any, AV.any, AV.any, AV.any, AV.any, AV.any] [some (Blk.mk true (nat_lit 1000003) (0 : Nat) true m), some (Blk.mk true (39 : Nat) (3 : Nat) true [AV.agg [AV.w64 a, AV.w64 b, AV.int IntKind.i64 k]])] = grSt nb a b k ((0 : Nat), m, t, nds) ∧ I ((0 : Nat), m, t, nds)) ∧ ∀ (p : GrP), I p → (Decidable.decide ((↑p.1 : Int) < k) = true → (bitZ a b (↑p.1 : Int) = true → Option.isSome (Tr.ptr (Tr.sub (bitAt a b) (0 : Nat) p.1 (Prod.snd (Prod.snd p)).1)) = true ∧ sure (Tr.ptr (Tr.sub (bitAt a b) (0 : Nat) p.1 (Prod.snd (Prod.snd p)).1)) = true ∧ ((0 : Int) ≤ (1 : Int) ∧ (1 : Int) < (↑(2 : Nat) : Int)) ∧ sure (shift (Tr.ptr (Tr.sub (bitAt a b) (0 : Nat) p.1 (Prod.snd (Prod.snd p)).1)) (0 : Nat)) = true ∧ mread (Prod.snd p).1 (shift (shift (Tr.ptr (Tr.sub (bitAt a b) (0 : Nat) p.1 (Prod.snd (Prod.snd p)).1)) (0 : Nat)) (Int.toNat (1 : Int) * (1 : Nat))) false (1 : Nat) = some (AV.val (Value.pointer (Tr.ptr (Tr.sub (bitAt a b) (0 : Nat) (p.1 + (1 : Nat)) (Prod.snd (Prod.snd p)).1)))) ∧ (Option.isNone (Tr.ptr (Tr.sub (bitAt a b) (0 : Nat) (p.1 + (1 : Nat)) (Prod.snd (Prod.snd p)).1)) = true → ∀ (b_1 : Nat), mget (Prod.snd p).1 b_1 = none → Option.isSome (Tr.ptr (Tr.sub (bitAt a b) (0 : Nat) p.1 (Prod.snd (Prod.snd p)).1)) = true ∧ sure (Tr.ptr (Tr.sub (bitAt a b) (0 : Nat) p.1 (Prod.snd (Prod.snd p)).1)) = true ∧ ((0 : Int) ≤ (1 : Int) ∧ (1 : Int) < (↑(2 : Nat) : Int)) ∧ sure (shift (Tr.ptr (Tr.sub (bitAt a b) (0 : Nat) p.1 (Prod.snd (Prod.snd p)).1)) (0 : Nat)) = true ∧ Option.isSome (mwrite ((Prod.snd p).1 ++ [mblk b_1 (82 : Nat) [AV.val (Value.pointer none), AV.val (Value.pointer none), AV.int IntKind.i64 (0 : Int)]]) (shift (shift (Tr.ptr (Tr.sub (bitAt a b) (0 : Nat) p.1 (Prod.snd (Prod.snd p)).1)) (0 : Nat)) (Int.toNat (1 : Int) * (1 : Nat))) (AV.val (Value.pointer (some (Addr.mk b_1 (0 : Nat) none))))) = true ∧ Option.isSome (some (Addr.mk nb (0 : Nat) none)) = true ∧ sure (some (Addr.mk nb (0 : Nat) none)) = true ∧ mread (mwr ((Prod.snd p).1 ++ [mblk b_1 (82 : Nat) [AV.val (Value.pointer none), AV.val (Value.pointer none), AV.int IntKind.i64 (0 : Int)]]) (shift (shift (Tr.ptr (Tr.sub (bitAt a b) (0 : Nat) p.1 (Prod.snd (Prod.snd p)).1)) (0 : Nat)) (Int.toNat (1 : Int) * (1 : Nat))) (AV.val (Value.pointer (some (Addr.mk b_1 (0 : Nat) none))))) (shift (some (Addr.mk nb (0 : Nat) none)) (5 : Nat)) false (1 : Nat) = some (AV.int IntKind.i64 (Prod.snd (Prod.snd p)).2) ∧ inRange IntKind.i64 ((Prod.snd (Prod.snd p)).2 + (1 : Int)) ∧ Option.isSome (some (Addr.mk nb (0 : Nat) none)) = true ∧ sure (some (Addr.mk nb (0 : Nat) none)) = true ∧ Option.isSome (mwrite (mwr ((Prod.snd p).1 ++ [mblk b_1 (82 : Nat) [AV.val (Value.pointer none), AV.val (Value.pointer none), AV.int IntKind.i64 (0 : Int)]]) (shift (shift (Tr.ptr (Tr.sub (bitAt a b) (0 : Nat) p.1 (Prod.snd (Prod.snd p)).1)) (0 : Nat)) (Int.toNat (1 : Int) * (1 : Nat))) (AV.val (Value.pointer (some (Addr.mk b_1 (0 : Nat) none))))) (shift (some (Addr.mk nb (0 : Nat) none)) (5 : Nat)) (AV.int IntKind.i64 ((Prod.snd (Prod.snd p)).2 + (1 : Int)))) = true ∧ Option.isSome (Tr.ptr (Tr.sub (bitAt a b) (0 : Nat) p.1 (Prod.snd (Prod.snd p)).1)) = true ∧ sure (Tr.ptr (Tr.sub (bitAt a b) (0 : Nat) p.1 (Prod.snd (Prod.snd p)).1)) = true ∧ ((0 : Int) ≤ (1 : Int) ∧ (1 : Int) < (↑(2 : Nat) : Int)) ∧ sure (shift (Tr.ptr (Tr.sub (bitAt a b) (0 : Nat) p.1 (Prod.snd (Prod.snd p)).1)) (0 : Nat)) = true ∧ mread (mwr (mwr ((Prod.snd p).1 ++ [mblk b_1 (82 : Nat) [AV.val (Value.pointer none), AV.val (Value.pointer none), AV.int IntKind.i64 (0 : Int)]]) (shift (shift (Tr.ptr (Tr.sub (bitAt a b) (0 : Nat) p.1 (Prod.snd (Prod.snd p)).1)) (0 : Nat)) (Int.toNat (1 : Int) * (1 : Nat))) (AV.val (Value.pointer (some (Addr.mk b_1 (0 : Nat) none))))) (shift (some (Addr.mk nb (0 : Nat) none)) (5 : Nat)) (AV.int IntKind.i64 ((Prod.snd (Prod.snd p)).2 + (1 : Int)))) (shift (shift (Tr.ptr (Tr.sub (bitAt a b) (0 : Nat) p.1 (Prod.snd (Prod.snd p)).1)) (0 : Nat)) (Int.toNat (1 : Int) * (1 : Nat))) false (1 : Nat) = some (AV.val (Value.pointer (some (Addr.mk b_1 (0 : Nat) none)))) ∧ inRange IntKind.i64 ((↑p.1 : Int) + (1 : Int)) ∧ ∃ (p' : GrP), St.mk [AV.val (Value.pointer (some (Addr.mk nb (0 : Nat) none))), AV.any, AV.any, AV.ptr ((0 : Nat) + (1 : Nat)) (0 : Nat) (0 : Nat) true, AV.any, AV.val (Value.pointer (some (Addr.mk b_1 (0 : Nat) none))), AV.any, AV.any, AV.any, AV.any, AV.any, AV.any, AV.int IntKind.i64 k, AV.int IntKind.i64 ((↑p.1 : Int) + (1 : Int)), AV.any, AV.any, AV.any, AV.any, AV.any, AV.any, AV.any, AV.any, AV.any, AV.any, AV.any, AV.any, AV.any, AV.any, AV.any, AV.any, AV.any, AV.any, AV.any, AV.any, AV.any, AV.any, AV.any, AV.any, AV.any, AV.any, AV.any, AV.any, AV.any, AV.any, AV.any, AV.any, AV.any, AV.any] [some (Blk.mk true (nat_lit 1000003) (0 : Nat) true (mwr (mwr ((Prod.snd p).1 ++ [mblk b_1 (82 : Nat) [AV.val (Value.pointer none), AV.val (Value.pointer none), AV.int IntKind.i64 (0 : Int)]]) (shift (shift (Tr.ptr (Tr.sub (bitAt a b) (0 : Nat) p.1 (Prod.snd (Prod.snd p)).1)) (0 : Nat)) (Int.toNat (1 : Int) * (1 : Nat))) (AV.val (Value.pointer (some (Addr.mk b_1 (0 : Nat) none))))) (shift (some (Addr.mk nb (0 : Nat) none)) (5 : Nat)) (AV.int IntKind.i64 ((Prod.snd (Prod.snd p)).2 + (1 : Int))))), some (Blk.mk true (39 : TypeId) (3 : Nat) true [AV.agg [AV.w64 a, AV.w64 b, AV.int IntKind.i64 k]])] = grSt nb a b k p' ∧ I p' ∧ Int.toNat k + (1 : Nat) - p'.1 < Int.toNat k + (1 : Nat) - p.1) ∧ (Option.isNone (Tr.ptr (Tr.sub (bitAt a b) (0 : Nat) (p.1 + (1 : Nat)) (Prod.snd (Prod.snd p)).1)) = false → Option.isSome (Tr.ptr (Tr.sub (bitAt a b) (0 : Nat) p.1 (Prod.snd (Prod.snd p)).1)) = true ∧ sure (Tr.ptr (Tr.sub (bitAt a b) (0 : Nat) p.1 (Prod.snd (Prod.snd p)).1)) = true ∧ ((0 : Int) ≤ (1 : Int) ∧ (1 : Int) < (↑(2 : Nat) : Int)) ∧ sure (shift (Tr.ptr (Tr.sub (bitAt a b) (0 : Nat) p.1 (Prod.snd (Prod.snd p)).1)) (0 : Nat)) = true ∧ mread (Prod.snd p).1 (shift (shift (Tr.ptr (Tr.sub (bitAt a b) (0 : Nat) p.1 (Prod.snd (Prod.snd p)).1)) (0 : Nat)) (Int.toNat (1 : Int) * (1 : Nat))) false (1 : Nat) = some (AV.val (Value.pointer (Tr.ptr (Tr.sub (bitAt a b) (0 : Nat) (p.1 + (1 : Nat)) (Prod.snd (Prod.snd p)).1)))) ∧ inRange IntKind.i64 ((↑p.1 : Int) + (1 : Int)) ∧ ∃ (p' : GrP), St.mk [AV.val (Value.pointer (some (Addr.mk nb (0 : Nat) none))), AV.any, AV.any, AV.ptr ((0 : Nat) + (1 : Nat)) (0 : Nat) (0 : Nat) true, AV.any, AV.val (Value.pointer (Tr.ptr (Tr.sub (bitAt a b) (0 : Nat) (p.1 + (1 : Nat)) (Prod.snd (Prod.snd p)).1))), AV.any, AV.any, AV.any, AV.any, AV.any, AV.any, AV.int IntKind.i64 k, AV.int IntKind.i64 ((↑p.1 : Int) + (1 : Int)), AV.any, AV.any, AV.any, AV.any, AV.any, AV.any, AV.any, AV.any, AV.any, AV.any, AV.any, AV.any, AV.any, AV.any, AV.any, AV.any, AV.any, AV.any, AV.any, AV.any, AV.any, AV.any, AV.any, AV.any, AV.any, AV.any, AV.any, AV.any, AV.any, AV.any, AV.any, AV.any, AV.any, AV.any] [some (Blk.mk true (nat_lit 1000003) (0 : Nat) true (Prod.snd p).1), some (Blk.mk true (39 : TypeId) (3 : Nat) true [AV.agg [AV.w64 a, AV.w64 b, AV.int IntKind.i64 k]])] = grSt nb a b k p' ∧ I p' ∧ Int.toNat k + (1 : Nat) - p'.1 < Int.toNat k + (1 : Nat) - p.1)) ∧ (bitZ a b (↑p.1 : Int) = false → Option.isSome (Tr.ptr (Tr.sub (bitAt a b) (0 : Nat) p.1 (Prod.snd (Prod.snd p)).1)) = true ∧ sure (Tr.ptr (Tr.sub (bitAt a b) (0 : Nat) p.1 (Prod.snd (Prod.snd p)).1)) = true ∧ ((0 : Int) ≤ (0 : Int) ∧ (0 : Int) < (↑(2 : Nat) : Int)) ∧ sure (shift (Tr.ptr (Tr.sub (bitAt a b) (0 : Nat) p.1 (Prod.snd (Prod.snd p)).1)) (0 : Nat)) = true ∧ mread (Prod.snd p).1 (shift (shift (Tr.ptr (Tr.sub (bitAt a b) (0 : Nat) p.1 (Prod.snd (Prod.snd p)).1)) (0 : Nat)) (Int.toNat (0 : Int) * (1 : Nat))) false (1 : Nat) = some (AV.val (Value.pointer (Tr.ptr (Tr.sub (bitAt a b) (0 : Nat) (p.1 + (1 : Nat)) (Prod.snd (Prod.snd p)).1)))) ∧ (Option.isNone (Tr.ptr (Tr.sub (bitAt a b) (0 : Nat) (p.1 + (1 : Nat)) (Prod.snd (Prod.snd p)).1)) = true → ∀ (b_1 : Nat), mget (Prod.snd p).1 b_1 = none → Option.isSome (Tr.ptr (Tr.sub (bitAt a b) (0 : Nat) p.1 (Prod.snd (Prod.snd p)).1)) = true ∧ sure (Tr.ptr (Tr.sub (bitAt a b) (0 : Nat) p.1 (Prod.snd (Prod.snd p)).1)) = true ∧ ((0 : Int) ≤ (0 : Int) ∧ (0 : Int) < (↑(2 : Nat) : Int)) ∧ sure (shift (Tr.ptr (Tr.sub (bitAt a b) (0 : Nat) p.1 (Prod.snd (Prod.snd p)).1)) (0 : Nat)) = true ∧ Option.isSome (mwrite ((Prod.snd p).1 ++ [mblk b_1 (82 : Nat) [AV.val (Value.pointer none), AV.val (Value.pointer none), AV.int IntKind.i64 (0 : Int)]]) (shift (shift (Tr.ptr (Tr.sub (bitAt a b) (0 : Nat) p.1 (Prod.snd (Prod.snd p)).1)) (0 : Nat)) (Int.toNat (0 : Int) * (1 : Nat))) (AV.val (Value.pointer (some (Addr.mk b_1 (0 : Nat) none))))) = true ∧ Option.isSome (some (Addr.mk nb (0 : Nat) none)) = true ∧ sure (some (Addr.mk nb (0 : Nat) none)) = true ∧ mread (mwr ((Prod.snd p).1 ++ [mblk b_1 (82 : Nat) [AV.val (Value.pointer none), AV.val (Value.pointer none), AV.int IntKind.i64 (0 : Int)]]) (shift (shift (Tr.ptr (Tr.sub (bitAt a b) (0 : Nat) p.1 (Prod.snd (Prod.snd p)).1)) (0 : Nat)) (Int.toNat (0 : Int) * (1 : Nat))) (AV.val (Value.pointer (some (Addr.mk b_1 (0 : Nat) none))))) (shift (some (Addr.mk nb (0 : Nat) none)) (5 : Nat)) false (1 : Nat) = some (AV.int IntKind.i64 (Prod.snd (Prod.snd p)).2) ∧ inRange IntKind.i64 ((Prod.snd (Prod.snd p)).2 + (1 : Int)) ∧ Option.isSome (some (Addr.mk nb (0 : Nat) none)) = true ∧ sure (some (Addr.mk nb (0 : Nat) none)) = true ∧ Option.isSome (mwrite (mwr ((Prod.snd p).1 ++ [mblk b_1 (82 : Nat) [AV.val (Value.pointer none), AV.val (Value.pointer none), AV.int IntKind.i64 (0 : Int)]]) (shift (shift (Tr.ptr (Tr.sub (bitAt a b) (0 : Nat) p.1 (Prod.snd (Prod.snd p)).1)) (0 : Nat)) (Int.toNat (0 : Int) * (1 : Nat))) (AV.val (Value.pointer (some (Addr.mk b_1 (0 : Nat) none))))) (shift (some (Addr.mk nb (0 : Nat) none)) (5 : Nat)) (AV.int IntKind.i64 ((Prod.snd (Prod.snd p)).2 + (1 : Int)))) = true ∧ Option.isSome (Tr.ptr (Tr.sub (bitAt a b) (0 : Nat) p.1 (Prod.snd (Prod.snd p)).1)) = true ∧ sure (Tr.ptr (Tr.sub (bitAt a b) (0 : Nat) p.1 (Prod.snd (Prod.snd p)).1)) = true ∧ ((0 : Int) ≤ (0 : Int) ∧ (0 : Int) < (↑(2 : Nat) : Int)) ∧ sure (shift (Tr.ptr (Tr.sub (bitAt a b) (0 : Nat) p.1 (Prod.snd (Prod.snd p)).1)) (0 : Nat)) = true ∧ mread (mwr (mwr ((Prod.snd p).1 ++ [mblk b_1 (82 : Nat) [AV.val (Value.pointer none), AV.val (Value.pointer none), AV.int IntKind.i64 (0 : Int)]]) (shift (shift (Tr.ptr (Tr.sub (bitAt a b) (0 : Nat) p.1 (Prod.snd (Prod.snd p)).1)) (0 : Nat)) (Int.toNat (0 : Int) * (1 : Nat))) (AV.val (Value.pointer (some (Addr.mk b_1 (0 : Nat) none))))) (shift (some (Addr.mk nb (0 : Nat) none)) (5 : Nat)) (AV.int IntKind.i64 ((Prod.snd (Prod.snd p)).2 + (1 : Int)))) (shift (shift (Tr.ptr (Tr.sub (bitAt a b) (0 : Nat) p.1 (Prod.snd (Prod.snd p)).1)) (0 : Nat)) (Int.toNat (0 : Int) * (1 : Nat))) false (1 : Nat) = some (AV.val (Value.pointer (some (Addr.mk b_1 (0 : Nat) none)))) ∧ inRange IntKind.i64 ((↑p.1 : Int) + (1 : Int)) ∧ ∃ (p' : GrP), St.mk [AV.val (Value.pointer (some (Addr.mk nb (0 : Nat) none))), AV.any, AV.any, AV.ptr ((0 : Nat) + (1 : Nat)) (0 : Nat) (0 : Nat) true, AV.any, AV.val (Value.pointer (some (Addr.mk b_1 (0 : Nat) none))), AV.any, AV.any, AV.any, AV.any, AV.any, AV.any, AV.int IntKind.i64 k, AV.int IntKind.i64 ((↑p.1 : Int) + (1 : Int)), AV.any, AV.any, AV.any, AV.any, AV.any, AV.any, AV.any, AV.any, AV.any, AV.any, AV.any, AV.any, AV.any, AV.any, AV.any, AV.any, AV.any, AV.any, AV.any, AV.any, AV.any, AV.any, AV.any, AV.any, AV.any, AV.any, AV.any, AV.any, AV.any, AV.any, AV.any, AV.any, AV.any, AV.any] [some (Blk.mk true (nat_lit 1000003) (0 : Nat) true (mwr (mwr ((Prod.snd p).1 ++ [mblk b_1 (82 : Nat) [AV.val (Value.pointer none), AV.val (Value.pointer none), AV.int IntKind.i64 (0 : Int)]]) (shift (shift (Tr.ptr (Tr.sub (bitAt a b) (0 : Nat) p.1 (Prod.snd (Prod.snd p)).1)) (0 : Nat)) (Int.toNat (0 : Int) * (1 : Nat))) (AV.val (Value.pointer (some (Addr.mk b_1 (0 : Nat) none))))) (shift (some (Addr.mk nb (0 : Nat) none)) (5 : Nat)) (AV.int IntKind.i64 ((Prod.snd (Prod.snd p)).2 + (1 : Int))))), some (Blk.mk true (39 : TypeId) (3 : Nat) true [AV.agg [AV.w64 a, AV.w64 b, AV.int IntKind.i64 k]])] = grSt nb a b k p' ∧ I p' ∧ Int.toNat k + (1 : Nat) - p'.1 < Int.toNat k + (1 : Nat) - p.1) ∧ (Option.isNone (Tr.ptr (Tr.sub (bitAt a b) (0 : Nat) (p.1 + (1 : Nat)) (Prod.snd (Prod.snd p)).1)) = false → Option.isSome (Tr.ptr (Tr.sub (bitAt a b) (0 : Nat) p.1 (Prod.snd (Prod.snd p)).1)) = true ∧ sure (Tr.ptr (Tr.sub (bitAt a b) (0 : Nat) p.1 (Prod.snd (Prod.snd p)).1)) = true ∧ ((0 : Int) ≤ (0 : Int) ∧ (0 : Int) < (↑(2 : Nat) : Int)) ∧ sure (shift (Tr.ptr (Tr.sub (bitAt a b) (0 : Nat) p.1 (Prod.snd (Prod.snd p)).1)) (0 : Nat)) = true ∧ mread (Prod.snd p).1 (shift (shift (Tr.ptr (Tr.sub (bitAt a b) (0 : Nat) p.1 (Prod.snd (Prod.snd p)).1)) (0 : Nat)) (Int.toNat (0 : Int) * (1 : Nat))) false (1 : Nat) = some (AV.val (Value.pointer (Tr.ptr (Tr.sub (bitAt a b) (0 : Nat) (p.1 + (1 : Nat)) (Prod.snd (Prod.snd p)).1)))) ∧ inRange IntKind.i64 ((↑p.1 : Int) + (1 : Int)) ∧ ∃ (p' : GrP), St.mk [AV.val (Value.pointer (some (Addr.mk nb (0 : Nat) none))), AV.any, AV.any, AV.ptr ((0 : Nat) + (1 : Nat)) (0 : Nat) (0 : Nat) true, AV.any, AV.val (Value.pointer (Tr.ptr (Tr.sub (bitAt a b) (0 : Nat) (p.1 + (1 : Nat)) (Prod.snd (Prod.snd p)).1))), AV.any, AV.any, AV.any, AV.any, AV.any, AV.any, AV.int IntKind.i64 k, AV.int IntKind.i64 ((↑p.1 : Int) + (1 : Int)), AV.any, AV.any, AV.any, AV.any, AV.any, AV.any, AV.any, AV.any, AV.any, AV.any, AV.any, AV.any, AV.any, AV.any, AV.any, AV.any, AV.any, AV.any, AV.any, AV.any, AV.any, AV.any, AV.any, AV.any, AV.any, AV.any, AV.any, AV.any, AV.any, AV.any, AV.any, AV.any, AV.any, AV.any] [some (Blk.mk true (nat_lit 1000003) (0 : Nat) true (Prod.snd p).1), some (Blk.mk true (39 : TypeId) (3 : Nat) true [AV.agg [AV.w64 a, AV.w64 b, AV.int IntKind.i64 k]])] = grSt nb a b k p' ∧ I p' ∧ Int.toNat k + (1 : Nat) - p'.1 < Int.toNat k + (1 : Nat) - p.1))) ∧ (Decidable.decide ((↑p.1 : Int) < k) = false → R (Prod.snd p).1 (AV.val (Value.pointer (Tr.ptr (Tr.sub (bitAt a b) (0 : Nat) p.1 (Prod.snd (Prod.snd p)).1)))))) := by kernel_rfl

theorem grCs_ok : ∀ e ∈ grCs, SpecOK Try.prog e.1 e.2 := by
  intro e he
  simp only [grCs, List.mem_cons, List.not_mem_nil, or_false] at he
  subst he
  exact side_ok

/-- What holds between two rounds of grow. -/
def grI (w : Int) (nb : Nat) (len nds0 : Int) (t0 : Tr) (a b : BitVec 64) (k : Int) (p : GrP) : Prop := p.1 ≤ k.toNat ∧ p.2.2.2 ≤ nds0 + p.1 ∧ GrI w nb len p.2.2.2 (bitAt a b) t0 p.1 p.2.2.1 p.2.1

theorem grow_ok : SpecOK Try.prog 53 (memW [none, none] growF) := by
  refine memW_ok (run_ok (l := grCs) grCs_ok mixed noNG) fun m l R hF => ?_
  unfold growF at hF
  split at hF
  · rename_i q a b k
    obtain ⟨w, nb, len, nds, t, hB, hcf, hsz, hok, rfl, hk0, hk1, hnd, hR⟩ := hF
    refine ⟨grH nb m t nds a b k (grI w nb len nds t a b k), ?_⟩
    show run grCs Try.prog _ [.val (.pointer (some ⟨nb, 0, none⟩)), .agg [.w64 a, .w64 b, .int .i64 k]] [some ⟨true, memTy, 0, true, m⟩] _ _
    rw [grow_run]
    have hne : t ≠ .nil := fun e => by have := hB.ptr; rw [e] at this; cases this
    refine ⟨rfl, rfl, ⟨?_, Nat.zero_le _, by simp, ⟨hB, hsz, hok, hne, ⟨hne, hcf⟩, fun _ _ => rfl⟩⟩, fun p hI => ?_⟩
    · show St.mk _ _ = grSt nb a b k (0, m, t, nds)
      unfold grSt
      rw [show Tr.sub (bitAt a b) 0 (0, m, t, nds).1 (0, m, t, nds).2.2.1 = t from rfl, hB.ptr]
      rfl
    · obtain ⟨i, m1, t1, n1⟩ := p
      obtain ⟨hi, hn1, hG⟩ := hI
      dsimp only at hi hn1 hG
      have hu := hG.here
      have hlu := Tr.lies_sub (bitAt a b) i 0 t1 hG.base.lies
      refine ⟨fun hlt => ?_, fun hge => ?_⟩
      · have hlt : (i : Int) < k := by simpa using hlt
        have hz : bitZ a b (i : Int) = bitAt a b i := bitZ_at (by omega) (by omega)
        have hst := Tr.step_read hlu hu (bitAt a b) i
        rw [sub_next] at hst
        have key : ∀ s : Nat, s = (if bitAt a b i then 1 else 0) → ((Tr.sub (bitAt a b) 0 (i + 1) t1).ptr.isNone = true → ∀ c : Nat, mget m1 c = none → ∃ m2 m3 : List AV,
            m2 = mwr (m1 ++ [mblk c 82 [.val (.pointer none), .val (.pointer none), .int .i64 0]]) (shift (shift (Tr.sub (bitAt a b) 0 i t1).ptr 0) s) (.val (.pointer (some ⟨c, 0, none⟩))) ∧ m3 = mwr m2 (shift (some ⟨nb, 0, none⟩) 5) (.int .i64 (n1 + 1)) ∧
            (mwrite (m1 ++ [mblk c 82 [.val (.pointer none), .val (.pointer none), .int .i64 0]]) (shift (shift (Tr.sub (bitAt a b) 0 i t1).ptr 0) s) (.val (.pointer (some ⟨c, 0, none⟩)))).isSome = true ∧ mread m2 (shift (some ⟨nb, 0, none⟩) 5) false 1 = some (.int .i64 n1) ∧ (mwrite m2 (shift (some ⟨nb, 0, none⟩) 5) (.int .i64 (n1 + 1))).isSome = true ∧
            mread m3 (shift (shift (Tr.sub (bitAt a b) 0 i t1).ptr 0) s) false 1 = some (.val (.pointer (some ⟨c, 0, none⟩))) ∧ ∃ t', GrI w nb len (n1 + 1) (bitAt a b) t (i + 1) t' m3 ∧ (Tr.sub (bitAt a b) 0 (i + 1) t').ptr = some ⟨c, 0, none⟩) := by
          intro s hs hnone c hc
          obtain ⟨k1, k2, k3, k4, k5⟩ := hG.new (ty := 82) (by omega) (Tr.ptr_nil.1 hnone) hc hs rfl rfl rfl
          exact ⟨_, _, rfl, rfl, k1, k2, k3, k4, k5⟩
        have inI : inRange .i64 ((i : Int) + 1) := inR (by omega) (by omega)
        have inN : inRange .i64 (n1 + 1) := by have := hG.size; exact inR (by omega) (by omega)
        refine ⟨fun hb => ?_, fun hb => ?_⟩
        · rw [hz] at hb
          have e1 : (if bitAt a b i then 1 else 0 : Nat) = 1 := by rw [hb]; rfl
          rw [e1] at hst
          refine ⟨Tr.ptr_some hu, Tr.ptr_sure hlu hu, ⟨by decide, by decide⟩, sure_shift (Tr.ptr_sure hlu hu) 0, hst, fun hnone c hc => ?_, fun hsome => ?_⟩
          · obtain ⟨m2, m3, rfl, rfl, k1, k2, k3, k4, t', k5, k6⟩ := key 1 e1.symm hnone c hc
            refine ⟨Tr.ptr_some hu, Tr.ptr_sure hlu hu, ⟨by decide, by decide⟩, sure_shift (Tr.ptr_sure hlu hu) 0, k1, rfl, rfl, k2, inN, rfl, rfl, k3, Tr.ptr_some hu, Tr.ptr_sure hlu hu, ⟨by decide, by decide⟩, sure_shift (Tr.ptr_sure hlu hu) 0, k4, inI, (i + 1, _, t', n1 + 1), ?_, ⟨by show i + 1 ≤ _; omega, by show n1 + 1 ≤ nds + ((i + 1 : Nat) : Int); omega, k5⟩, by show k.toNat + 1 - (i + 1) < k.toNat + 1 - i; omega⟩
            unfold grSt
            dsimp only
            rw [k6]
            rfl
          · have hn2 : Tr.sub (bitAt a b) 0 (i + 1) t1 ≠ .nil := fun e => by rw [Tr.ptr_nil.2 e] at hsome; cases hsome
            exact ⟨Tr.ptr_some hu, Tr.ptr_sure hlu hu, ⟨by decide, by decide⟩, sure_shift (Tr.ptr_sure hlu hu) 0, hst, inI, (i + 1, m1, t1, n1), rfl, ⟨by show i + 1 ≤ _; omega, by show n1 ≤ nds + ((i + 1 : Nat) : Int); omega, hG.old hn2⟩, by show k.toNat + 1 - (i + 1) < k.toNat + 1 - i; omega⟩
        · rw [hz] at hb
          have e1 : (if bitAt a b i then 1 else 0 : Nat) = 0 := by rw [hb]; rfl
          rw [e1] at hst
          refine ⟨Tr.ptr_some hu, Tr.ptr_sure hlu hu, ⟨by decide, by decide⟩, sure_shift (Tr.ptr_sure hlu hu) 0, hst, fun hnone c hc => ?_, fun hsome => ?_⟩
          · obtain ⟨m2, m3, rfl, rfl, k1, k2, k3, k4, t', k5, k6⟩ := key 0 e1.symm hnone c hc
            refine ⟨Tr.ptr_some hu, Tr.ptr_sure hlu hu, ⟨by decide, by decide⟩, sure_shift (Tr.ptr_sure hlu hu) 0, k1, rfl, rfl, k2, inN, rfl, rfl, k3, Tr.ptr_some hu, Tr.ptr_sure hlu hu, ⟨by decide, by decide⟩, sure_shift (Tr.ptr_sure hlu hu) 0, k4, inI, (i + 1, _, t', n1 + 1), ?_, ⟨by show i + 1 ≤ _; omega, by show n1 + 1 ≤ nds + ((i + 1 : Nat) : Int); omega, k5⟩, by show k.toNat + 1 - (i + 1) < k.toNat + 1 - i; omega⟩
            unfold grSt
            dsimp only
            rw [k6]
            rfl
          · have hn2 : Tr.sub (bitAt a b) 0 (i + 1) t1 ≠ .nil := fun e => by rw [Tr.ptr_nil.2 e] at hsome; cases hsome
            exact ⟨Tr.ptr_some hu, Tr.ptr_sure hlu hu, ⟨by decide, by decide⟩, sure_shift (Tr.ptr_sure hlu hu) 0, hst, inI, (i + 1, m1, t1, n1), rfl, ⟨by show i + 1 ≤ _; omega, by show n1 ≤ nds + ((i + 1 : Nat) : Int); omega, hG.old hn2⟩, by show k.toNat + 1 - (i + 1) < k.toNat + 1 - i; omega⟩
      · have hge : ¬ (i : Int) < k := by simpa using hge
        have : i = k.toNat := by omega
        subst this
        exact hR m1 t1 n1 hG
  · exact hF.elim

end Go.Proofs.Ytfpofdlpgocnlaa.L1
end

