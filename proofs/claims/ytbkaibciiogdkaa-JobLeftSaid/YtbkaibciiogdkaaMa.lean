/-
  Texts in one: M01 M02 M03 M04 M09 M11 M12 M15 M34.
-/
import Derived.Laws.Small

section
/-
  Plain mathematics for layer 1: the bits of two words, from the left. No program.
-/
namespace Go.Sx.M

/-- The first n of bits, as a number. -/
def W (f : Nat → Bool) : Nat → BitVec 64
  | 0 => 0#64
  | n + 1 => if f n then W f n * 2#64 + 1#64 else W f n * 2#64

/-- A word with the bit j from the right alone. -/
def one (j : Nat) : BitVec 64 := BitVec.ofInt 64 1 <<< j

/-- A word with its bit k, from the left, so. -/
def put (a : BitVec 64) (k : Int) (c : Bool) : BitVec 64 :=
  if 0 ≤ k ∧ k < 64 then (match c with | true => a ||| one (63 - k.toNat) | false => a &&& ~~~one (63 - k.toNat)) else a

end Go.Sx.M
end

section
/-
  Plain mathematics: the sums of adjacent bits (what OnesCount64 computes) count the bits that are set. No program.
-/
namespace Go.Sx.M

def val : List Nat → Nat
  | [] => 0
  | u :: l => 256 * val l + u

def small (l : List Nat) : Prop := ∀ u ∈ l, u < 256

def s1 (u : Nat) : Nat := (u / 2 &&& 85) + (u &&& 85)
def s2 (u : Nat) : Nat := (u / 4 &&& 51) + (u &&& 51)
def s3 (u : Nat) : Nat := u / 16 + u &&& 15

theorem a1 : ∀ u : Fin 256, ∀ c : Fin 2, (u.val / 2 + 128 * c.val) &&& 85 = u.val / 2 &&& 85 := by decide +kernel
theorem a2 : ∀ u : Fin 256, ∀ c : Fin 4, (u.val / 4 + 64 * c.val) &&& 51 = u.val / 4 &&& 51 := by decide +kernel
theorem b1 : ∀ u : Fin 256, s1 u.val < 256 := by decide +kernel
theorem b2 : ∀ u : Fin 256, s2 (s1 u.val) < 69 ∧ s2 (s1 u.val) % 16 < 5 := by decide +kernel
theorem a3 : ∀ u : Fin 69, ∀ c : Fin 5, (u.val / 16 + 16 * c.val + u.val) &&& 15 = (u.val / 16 + u.val) &&& 15 := by decide +kernel

/-- How many of the first n bits are set. -/
def cnt : Nat → Nat → Nat
  | 0, _ => 0
  | n + 1, x => cnt n x + (if x.testBit n then 1 else 0)

theorem c3 : ∀ u : Fin 256, s3 (s2 (s1 u.val)) = cnt 8 u.val := by decide +kernel

theorem last (c0 c1 c2 c3 c4 c5 c6 c7 : Nat) (h0 : c0 < 9) (h1 : c1 < 9) (h2 : c2 < 9) (h3 : c3 < 9) (h4 : c4 < 9) (h5 : c5 < 9) (h6 : c6 < 9) (h7 : c7 < 9) (y y1 y2 y3 : Nat)
    (hy : y = val [c0, c1, c2, c3, c4, c5, c6, c7]) (hy1 : y1 = y + y / 256) (hy2 : y2 = y1 + y1 / 65536) (hy3 : y3 = y2 + y2 / 4294967296) :
    y3 < 18446744073709551616 ∧ y3 % 128 = c0 + c1 + c2 + c3 + c4 + c5 + c6 + c7 := by
  simp only [val] at hy
  have q1 : y / 256 = val [c1, c2, c3, c4, c5, c6, c7] := by simp only [val]; omega
  simp only [val] at q1
  have e1 : y1 = val [c0 + c1, c1 + c2, c2 + c3, c3 + c4, c4 + c5, c5 + c6, c6 + c7, c7] := by simp only [val]; omega
  clear hy1 q1 hy
  simp only [val] at e1
  have q2 : y1 / 65536 = val [c2 + c3, c3 + c4, c4 + c5, c5 + c6, c6 + c7, c7] := by simp only [val]; omega
  simp only [val] at q2
  have e2 : y2 = val [c0 + c1 + c2 + c3, c1 + c2 + c3 + c4, c2 + c3 + c4 + c5, c3 + c4 + c5 + c6, c4 + c5 + c6 + c7, c5 + c6 + c7, c6 + c7, c7] := by simp only [val]; omega
  clear hy2 q2 e1
  simp only [val] at e2
  have q3 : y2 / 4294967296 = val [c4 + c5 + c6 + c7, c5 + c6 + c7, c6 + c7, c7] := by simp only [val]; omega
  simp only [val] at q3
  have e3 : y3 = val [c0 + c1 + c2 + c3 + c4 + c5 + c6 + c7, c1 + c2 + c3 + c4 + c5 + c6 + c7, c2 + c3 + c4 + c5 + c6 + c7, c3 + c4 + c5 + c6 + c7, c4 + c5 + c6 + c7, c5 + c6 + c7, c6 + c7, c7] := by simp only [val]; omega
  clear hy3 q3 e2
  simp only [val] at e3
  constructor <;> omega

end Go.Sx.M
end

section
/-
  Plain mathematics: how many bits of two words are set, counted from the left. No program.
-/
namespace Go.Sx.M

end Go.Sx.M
end

section
/-
  Plain mathematics: the first bit that differs; two words as one number. No program.
-/
namespace Go.Sx.M

structure IsCom (f g : Nat → Bool) (n : Nat) : Prop where
  le : n ≤ 128
  same : ∀ i, i < n → f i = g i
  other : n < 128 → f n ≠ g n

theorem IsCom.symm {f g : Nat → Bool} {n : Nat} (h : IsCom f g n) : IsCom g f n := ⟨h.le, fun i hi => (h.same i hi).symm, fun hn e => h.other hn e.symm⟩

/-- Two words as one number. -/
def V (a b : BitVec 64) : Nat := a.toNat * 2 ^ 64 + b.toNat

end Go.Sx.M
end

section
/-
  Plain mathematics for words: bit by bit of two words of 64 bits. No program.
-/
namespace Go.Sx.M

end Go.Sx.M
end

section
/-
  Plain mathematics: entries, rows of entries: which one is the first, which the best one. No program.
-/
namespace Go.Sx.M

/-- An entry: a word's value and mask, its length, its action. -/
structure En where
  v : BitVec 64
  w : BitVec 64
  m : BitVec 64
  n : BitVec 64
  len : Int
  act : Int
  deriving DecidableEq, Inhabited

/-- Element k of a row. -/
def at' {T : Type} [Inhabited T] (l : List T) (k : Nat) : T := l.getD k default

theorem at_get {T : Type} [Inhabited T] {l : List T} {k : Nat} (h : k < l.length) : l[k]? = some (at' l k) := by
  unfold at'; rw [List.getD_eq_getElem?_getD, List.getElem?_eq_getElem h]; rfl

end Go.Sx.M
end

section
/-
  Plain mathematics: the order of entries, sorted rows. No program.
-/
namespace Go.Sx.M

end Go.Sx.M
end

section
/-
  Slots, writes: plain mathematics.
-/
namespace Go.Sx.M

/-- A slot: is it valid; its entry. -/
structure Sl where
  ok : Bool
  e : En
  deriving DecidableEq, Inhabited

/-- A write: of which slot; what it becomes. -/
structure Wr where
  p : Int
  s : Sl
  deriving DecidableEq, Inhabited

/-- An empty one. -/
def zS : Sl := ⟨false, ⟨0#64, 0#64, 0#64, 0#64, 0, 0⟩⟩

theorem eq_zS {o : Bool} {v w m n : BitVec 64} {k j : Int} : (o == false && (v == BitVec.ofInt 64 0 && w == BitVec.ofInt 64 0 && (m == BitVec.ofInt 64 0 && n == BitVec.ofInt 64 0) && (k == 0 && j == 0))) = decide ((⟨o, ⟨v, w, m, n, k, j⟩⟩ : Sl) = zS) := by
  have e : BitVec.ofInt 64 0 = 0#64 := rfl
  rw [Bool.eq_iff_iff, decide_eq_true_eq, e]
  unfold zS
  simp only [Bool.and_eq_true, beq_iff_eq, Sl.mk.injEq, En.mk.injEq]
  constructor
  · rintro ⟨a, ⟨⟨b, c⟩, d, e⟩, f, g⟩
    exact ⟨a, b, c, d, e, f, g⟩
  · rintro ⟨a, b, c, d, e, f, g⟩
    exact ⟨a, ⟨⟨b, c⟩, d, e⟩, f, g⟩

/-- Two slots, cell by cell. -/
theorem eq_Sl {x y : Sl} : (x.ok == y.ok && (x.e.v == y.e.v && x.e.w == y.e.w && (x.e.m == y.e.m && x.e.n == y.e.n) && (x.e.len == y.e.len && x.e.act == y.e.act))) = decide (x = y) := by
  obtain ⟨o, v, w, m, n, k, j⟩ := x
  obtain ⟨o', v', w', m', n', k', j'⟩ := y
  rw [Bool.eq_iff_iff, decide_eq_true_eq]
  simp only [Bool.and_eq_true, beq_iff_eq, Sl.mk.injEq, En.mk.injEq]
  constructor
  · rintro ⟨a, ⟨⟨b, c⟩, d, e⟩, f, g⟩
    exact ⟨a, b, c, d, e, f, g⟩
  · rintro ⟨a, b, c, d, e, f, g⟩
    exact ⟨a, ⟨⟨b, c⟩, d, e⟩, f, g⟩

theorem eq_Wr {x y : Wr} : (x.p == y.p && (x.s.ok == y.s.ok && (x.s.e.v == y.s.e.v && x.s.e.w == y.s.e.w && (x.s.e.m == y.s.e.m && x.s.e.n == y.s.e.n) && (x.s.e.len == y.s.e.len && x.s.e.act == y.s.e.act)))) = decide (x = y) := by
  obtain ⟨p, s⟩ := x
  obtain ⟨q, t⟩ := y
  rw [eq_Sl, Bool.eq_iff_iff, decide_eq_true_eq]
  simp only [Bool.and_eq_true, beq_iff_eq, decide_eq_true_eq, Wr.mk.injEq]

theorem at_eq {T : Type} [Inhabited T] {l : List T} {k : Nat} (h : k < l.length) : at' l k = l[k] := by
  have := at_get h
  rw [List.getElem?_eq_getElem h] at this
  exact (Option.some_inj.1 this).symm

end Go.Sx.M
end

section
/-
  Plain mathematics: moves. No program.
-/
namespace Go.Sx.M

/-- A move: a write of a bank. -/
structure Mv where
  b : Int
  w : Wr
  deriving DecidableEq, Inhabited

theorem eq_Mv {x y : Mv} : (x.b == y.b && (x.w.p == y.w.p && (x.w.s.ok == y.w.s.ok && (x.w.s.e.v == y.w.s.e.v && x.w.s.e.w == y.w.s.e.w && (x.w.s.e.m == y.w.s.e.m && x.w.s.e.n == y.w.s.e.n) && (x.w.s.e.len == y.w.s.e.len && x.w.s.e.act == y.w.s.e.act))))) = decide (x = y) := by
  obtain ⟨b, w⟩ := x
  obtain ⟨c, z⟩ := y
  rw [eq_Wr, Bool.eq_iff_iff, decide_eq_true_eq]
  simp only [Bool.and_eq_true, beq_iff_eq, decide_eq_true_eq, Mv.mk.injEq]

/-- The moves of a bank. -/
def ofM (j : Int) (l : List Wr) : List Mv := l.map fun w => ⟨j, w⟩

end Go.Sx.M
end

