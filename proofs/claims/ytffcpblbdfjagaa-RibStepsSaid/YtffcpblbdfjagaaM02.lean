/-
  Plain mathematics: the sums of adjacent bits (what OnesCount64 computes) count the bits that are set. No program.
-/
import Derived.Laws.Small
namespace Go.Sx.M

/-- and, byte by byte. -/
theorem and_split (v M u m : Nat) (hu : u < 256) (hm : m < 256) : (256 * v + u) &&& (256 * M + m) = 256 * (v &&& M) + (u &&& m) := by
  apply Nat.eq_of_testBit_eq
  intro i
  have e : ∀ a b : Nat, b < 256 → (256 * a + b).testBit i = if i < 8 then b.testBit i else a.testBit (i - 8) := fun a b hb => by
    have := Nat.testBit_two_pow_mul_add (i := 8) a (b := b) (by simpa using hb) i
    simpa using this
  have hum : u &&& m < 256 := Nat.lt_of_le_of_lt Nat.and_le_left hu
  rw [Nat.testBit_and, e v u hu, e M m hm, e (v &&& M) (u &&& m) hum]
  split <;> simp [Nat.testBit_and]

def val : List Nat → Nat
  | [] => 0
  | u :: l => 256 * val l + u

def small (l : List Nat) : Prop := ∀ u ∈ l, u < 256

theorem shr1 (v u : Nat) : (256 * v + u) / 2 = 256 * (v / 2) + (u / 2 + 128 * (v % 2)) := by omega
theorem shr2 (v u : Nat) : (256 * v + u) / 4 = 256 * (v / 4) + (u / 4 + 64 * (v % 4)) := by omega
theorem shr4 (v u : Nat) : (256 * v + u) / 16 = 256 * (v / 16) + (u / 16 + 16 * (v % 16)) := by omega

def s1 (u : Nat) : Nat := (u / 2 &&& 85) + (u &&& 85)
def s2 (u : Nat) : Nat := (u / 4 &&& 51) + (u &&& 51)
def s3 (u : Nat) : Nat := u / 16 + u &&& 15

theorem a1 : ∀ u : Fin 256, ∀ c : Fin 2, (u.val / 2 + 128 * c.val) &&& 85 = u.val / 2 &&& 85 := by decide +kernel
theorem a2 : ∀ u : Fin 256, ∀ c : Fin 4, (u.val / 4 + 64 * c.val) &&& 51 = u.val / 4 &&& 51 := by decide +kernel
theorem b1 : ∀ u : Fin 256, s1 u.val < 256 := by decide +kernel
theorem b2 : ∀ u : Fin 256, s2 (s1 u.val) < 69 ∧ s2 (s1 u.val) % 16 < 5 := by decide +kernel
theorem a3 : ∀ u : Fin 69, ∀ c : Fin 5, (u.val / 16 + 16 * c.val + u.val) &&& 15 = (u.val / 16 + u.val) &&& 15 := by decide +kernel

theorem step1 : ∀ l : List Nat, small l → (val l / 2 &&& val (l.map fun _ => 85)) + (val l &&& val (l.map fun _ => 85)) = val (l.map s1)
  | [], _ => by simp [val]
  | u :: l, h => by
    have hu : u < 256 := h u (by simp)
    have ih := step1 l fun x hx => h x (by simp [hx])
    simp only [val, List.map_cons]
    rw [shr1, and_split _ _ _ _ (by omega) (by omega), and_split _ _ _ _ hu (by omega)]
    have e := a1 ⟨u, hu⟩ ⟨val l % 2, by omega⟩
    dsimp only at e
    rw [e, ← ih, s1]
    omega

theorem step2 : ∀ l : List Nat, small l → (val l / 4 &&& val (l.map fun _ => 51)) + (val l &&& val (l.map fun _ => 51)) = val (l.map s2)
  | [], _ => by simp [val]
  | u :: l, h => by
    have hu : u < 256 := h u (by simp)
    have ih := step2 l fun x hx => h x (by simp [hx])
    simp only [val, List.map_cons]
    rw [shr2, and_split _ _ _ _ (by omega) (by omega), and_split _ _ _ _ hu (by omega)]
    have e := a2 ⟨u, hu⟩ ⟨val l % 4, by omega⟩
    dsimp only at e
    rw [e, ← ih, s2]
    omega

theorem valmod : ∀ l : List Nat, (∀ u ∈ l, u < 69 ∧ u % 16 < 5) → val l % 16 < 5
  | [], _ => by simp [val]
  | u :: l, h => by
    have := h u (by simp)
    simp only [val]; omega

theorem step3 : ∀ l : List Nat, (∀ u ∈ l, u < 69 ∧ u % 16 < 5) → (val l / 16 + val l) &&& val (l.map fun _ => 15) = val (l.map s3)
  | [], _ => by simp [val]
  | u :: l, h => by
    have hu := h u (by simp)
    have hl : ∀ x ∈ l, x < 69 ∧ x % 16 < 5 := fun x hx => h x (by simp [hx])
    have ih := step3 l hl
    have hv := valmod l hl
    simp only [val, List.map_cons]
    rw [shr4, show 256 * (val l / 16) + (u / 16 + 16 * (val l % 16)) + (256 * val l + u) = 256 * (val l / 16 + val l) + (u / 16 + 16 * (val l % 16) + u) from by omega,
      and_split _ _ _ _ (by omega) (by omega), ih]
    have e := a3 ⟨u, hu.1⟩ ⟨val l % 16, hv⟩
    dsimp only at e
    rw [e, s3]

/-- How many of the first n bits are set. -/
def cnt : Nat → Nat → Nat
  | 0, _ => 0
  | n + 1, x => cnt n x + (if x.testBit n then 1 else 0)

theorem c3 : ∀ u : Fin 256, s3 (s2 (s1 u.val)) = cnt 8 u.val := by decide +kernel

theorem last (c0 c1 c2 c3 c4 c5 c6 c7 : Nat) (h0 : c0 < 9) (h1 : c1 < 9) (h2 : c2 < 9) (h3 : c3 < 9) (h4 : c4 < 9) (h5 : c5 < 9) (h6 : c6 < 9) (h7 : c7 < 9) (y y1 y2 y3 : Nat)
    (hy : y = val [c0, c1, c2, c3, c4, c5, c6, c7]) (hy1 : y1 = y + y / 256) (hy2 : y2 = y1 + y1 / 65536) (hy3 : y3 = y2 + y2 / 4294967296) :
    y3 < 18446744073709551616 ∧ y3 % 128 = c0 + c1 + c2 + c3 + c4 + c5 + c6 + c7 := by
  simp only [val] at hy
  have q1 : y / 256 = val [c1, c2, c3, c4, c5, c6, c7] := by simp only [val]; omega
  simp only [val] at q1
  have e1 : y1 = val [c0 + c1, c1 + c2, c2 + c3, c3 + c4, c4 + c5, c5 + c6, c6 + c7, c7] := by simp only [val]; omega
  clear hy1 q1 hy
  simp only [val] at e1
  have q2 : y1 / 65536 = val [c2 + c3, c3 + c4, c4 + c5, c5 + c6, c6 + c7, c7] := by simp only [val]; omega
  simp only [val] at q2
  have e2 : y2 = val [c0 + c1 + c2 + c3, c1 + c2 + c3 + c4, c2 + c3 + c4 + c5, c3 + c4 + c5 + c6, c4 + c5 + c6 + c7, c5 + c6 + c7, c6 + c7, c7] := by simp only [val]; omega
  clear hy2 q2 e1
  simp only [val] at e2
  have q3 : y2 / 4294967296 = val [c4 + c5 + c6 + c7, c5 + c6 + c7, c6 + c7, c7] := by simp only [val]; omega
  simp only [val] at q3
  have e3 : y3 = val [c0 + c1 + c2 + c3 + c4 + c5 + c6 + c7, c1 + c2 + c3 + c4 + c5 + c6 + c7, c2 + c3 + c4 + c5 + c6 + c7, c3 + c4 + c5 + c6 + c7, c4 + c5 + c6 + c7, c5 + c6 + c7, c6 + c7, c7] := by simp only [val]; omega
  clear hy3 q3 e2
  simp only [val] at e3
  constructor <;> omega

theorem cnt_split (u v : Nat) (hu : u < 256) : ∀ n, cnt (8 + n) (256 * v + u) = cnt 8 u + cnt n v := by
  have e : ∀ i, (256 * v + u).testBit i = if i < 8 then u.testBit i else v.testBit (i - 8) := fun i => by
    have := Nat.testBit_two_pow_mul_add (i := 8) v (b := u) (by simpa using hu) i
    simpa using this
  intro n
  induction n with
  | zero => simp [cnt, e]
  | succ n ih =>
    show cnt (8 + n) (256 * v + u) + (if (256 * v + u).testBit (8 + n) = true then 1 else 0) = cnt 8 u + (cnt n v + if v.testBit n = true then 1 else 0)
    have h8 : (256 * v + u).testBit (8 + n) = v.testBit n := by rw [e, if_neg (by omega)]; congr 1; omega
    rw [ih, h8]
    omega

theorem cnt8 : ∀ u : Fin 256, cnt 8 u.val < 9 := by decide +kernel

theorem s12 {u : Nat} (h : u < 256) : s2 (s1 u) < 69 ∧ s2 (s1 u) % 16 < 5 := b2 ⟨u, h⟩
theorem s11 {u : Nat} (h : u < 256) : s1 u < 256 := b1 ⟨u, h⟩
theorem s123 {u : Nat} (h : u < 256) : s3 (s2 (s1 u)) = cnt 8 u := c3 ⟨u, h⟩

theorem val_lt : ∀ {l : List Nat}, small l → val l < 256 ^ l.length
  | [], _ => by simp [val]
  | u :: l, h => by
    have hu : u < 256 := h u (by simp)
    have ih := val_lt (l := l) fun x hx => h x (by simp [hx])
    simp only [val, List.length_cons, Nat.pow_succ]
    omega

/-- What the sums of adjacent bits come to. -/
theorem popcount (x : Nat) (hx : x < 18446744073709551616) (x1 x2 y y1 y2 y3 : Nat)
    (h1 : x1 = (x / 2 &&& 6148914691236517205) + (x &&& 6148914691236517205)) (h2 : x2 = (x1 / 4 &&& 3689348814741910323) + (x1 &&& 3689348814741910323))
    (hy : y = (x2 / 16 + x2) &&& 1085102592571150095) (hy1 : y1 = y + y / 256) (hy2 : y2 = y1 + y1 / 65536) (hy3 : y3 = y2 + y2 / 4294967296) :
    x1 < 18446744073709551616 ∧ x2 / 16 + x2 < 18446744073709551616 ∧ y3 < 18446744073709551616 ∧ y3 % 128 = cnt 64 x := by
  obtain ⟨l, hl, hlen, rfl⟩ : ∃ l : List Nat, small l ∧ l.length = 8 ∧ x = val l := by
    refine ⟨[x % 256, x / 256 % 256, x / 65536 % 256, x / 16777216 % 256, x / 4294967296 % 256, x / 1099511627776 % 256, x / 281474976710656 % 256, x / 72057594037927936 % 256], ?_, rfl, ?_⟩
    · intro u hu
      simp only [List.mem_cons, List.not_mem_nil, or_false] at hu
      omega
    · simp only [val]; omega
  match l, hlen with
  | [c0, c1, c2, c3, c4, c5, c6, c7], _ =>
    have k0 : c0 < 256 := hl _ (by simp)
    have k1 : c1 < 256 := hl _ (by simp)
    have k2 : c2 < 256 := hl _ (by simp)
    have k3 : c3 < 256 := hl _ (by simp)
    have k4 : c4 < 256 := hl _ (by simp)
    have k5 : c5 < 256 := hl _ (by simp)
    have k6 : c6 < 256 := hl _ (by simp)
    have k7 : c7 < 256 := hl _ (by simp)
    have hl1 : small [s1 c0, s1 c1, s1 c2, s1 c3, s1 c4, s1 c5, s1 c6, s1 c7] := by
      intro u hu
      simp only [List.mem_cons, List.not_mem_nil, or_false] at hu
      rcases hu with rfl | rfl | rfl | rfl | rfl | rfl | rfl | rfl <;> exact s11 (by assumption)
    have hl2 : ∀ u ∈ [s2 (s1 c0), s2 (s1 c1), s2 (s1 c2), s2 (s1 c3), s2 (s1 c4), s2 (s1 c5), s2 (s1 c6), s2 (s1 c7)], u < 69 ∧ u % 16 < 5 := by
      intro u hu
      simp only [List.mem_cons, List.not_mem_nil, or_false] at hu
      rcases hu with rfl | rfl | rfl | rfl | rfl | rfl | rfl | rfl <;> exact s12 (by assumption)
    have e1 : x1 = val [s1 c0, s1 c1, s1 c2, s1 c3, s1 c4, s1 c5, s1 c6, s1 c7] := by rw [h1, show 6148914691236517205 = val ([c0, c1, c2, c3, c4, c5, c6, c7].map fun _ => 85) from by simp [val]]; exact step1 _ hl
    have e2 : x2 = val [s2 (s1 c0), s2 (s1 c1), s2 (s1 c2), s2 (s1 c3), s2 (s1 c4), s2 (s1 c5), s2 (s1 c6), s2 (s1 c7)] := by rw [h2, e1, show 3689348814741910323 = val ([s1 c0, s1 c1, s1 c2, s1 c3, s1 c4, s1 c5, s1 c6, s1 c7].map fun _ => 51) from by simp [val]]; exact step2 _ hl1
    have e3 : y = val [s3 (s2 (s1 c0)), s3 (s2 (s1 c1)), s3 (s2 (s1 c2)), s3 (s2 (s1 c3)), s3 (s2 (s1 c4)), s3 (s2 (s1 c5)), s3 (s2 (s1 c6)), s3 (s2 (s1 c7))] := by rw [hy, e2, show 1085102592571150095 = val ([s2 (s1 c0), s2 (s1 c1), s2 (s1 c2), s2 (s1 c3), s2 (s1 c4), s2 (s1 c5), s2 (s1 c6), s2 (s1 c7)].map fun _ => 15) from by simp [val]]; exact step3 _ hl2
    rw [s123 k0, s123 k1, s123 k2, s123 k3, s123 k4, s123 k5, s123 k6, s123 k7] at e3
    have hlast := last _ _ _ _ _ _ _ _ (cnt8 ⟨c0, k0⟩) (cnt8 ⟨c1, k1⟩) (cnt8 ⟨c2, k2⟩) (cnt8 ⟨c3, k3⟩) (cnt8 ⟨c4, k4⟩) (cnt8 ⟨c5, k5⟩) (cnt8 ⟨c6, k6⟩) (cnt8 ⟨c7, k7⟩) y y1 y2 y3 e3 hy1 hy2 hy3
    refine ⟨?_, ?_, hlast.1, ?_⟩
    · have h := val_lt hl1
      simp only [List.length_cons, List.length_nil] at h
      rw [e1]
      exact Nat.lt_of_lt_of_le h (by decide)
    · have : x2 < 69 * 72057594037927936 + 72057594037927936 := by
        rw [e2]
        have := (s12 k0).1; have := (s12 k1).1; have := (s12 k2).1; have := (s12 k3).1; have := (s12 k4).1; have := (s12 k5).1; have := (s12 k6).1; have := (s12 k7).1
        simp only [val]; omega
      omega
    · rw [hlast.2]
      simp only [val]
      have j0 := cnt_split c0 (val [c1, c2, c3, c4, c5, c6, c7]) k0 56
      have j1 := cnt_split c1 (val [c2, c3, c4, c5, c6, c7]) k1 48
      have j2 := cnt_split c2 (val [c3, c4, c5, c6, c7]) k2 40
      have j3 := cnt_split c3 (val [c4, c5, c6, c7]) k3 32
      have j4 := cnt_split c4 (val [c5, c6, c7]) k4 24
      have j5 := cnt_split c5 (val [c6, c7]) k5 16
      have j6 := cnt_split c6 (val [c7]) k6 8
      have j7 := cnt_split c7 (val []) k7 0
      simp only [val, Nat.reduceAdd, Nat.add_zero] at j0 j1 j2 j3 j4 j5 j6 j7 ⊢
      rw [j0, j1, j2, j3, j4, j5, j6, j7]
      show _ = cnt 8 c0 + (cnt 8 c1 + (cnt 8 c2 + (cnt 8 c3 + (cnt 8 c4 + (cnt 8 c5 + (cnt 8 c6 + (cnt 8 c7 + 0)))))))
      omega

end Go.Sx.M
