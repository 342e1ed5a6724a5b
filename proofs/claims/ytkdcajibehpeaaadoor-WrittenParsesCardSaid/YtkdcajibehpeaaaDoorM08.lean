/-
  Plain mathematics: a text parted at a sign; four hexadecimal digits; bits put one by one.
-/
import Derived.Test.YtkdcajibehpeaaaDoorM07
namespace Go.Sx.M

/-- One more sign of a text that is parted at c. -/
def step (c : UInt8) (out : List (List UInt8)) (u : UInt8) : List (List UInt8) := if u = c then out ++ [[]] else out.dropLast ++ [out.getLastD [] ++ [u]]

/-- A text, parted at c. -/
def spl (c : UInt8) (l : List UInt8) : List (List UInt8) := l.foldl (step c) [[]]

theorem spl_snoc (c : UInt8) (l : List UInt8) (u : UInt8) : spl c (l ++ [u]) = step c (spl c l) u := by simp [spl]

theorem step_len (c : UInt8) (out : List (List UInt8)) (u : UInt8) (h : 1 ≤ out.length) : out.length ≤ (step c out u).length ∧ (step c out u).length ≤ out.length + 1 := by
  unfold step
  split
  · simp
  · simp; omega

theorem spl_len (c : UInt8) : ∀ (n : Nat) (l : List UInt8), l.length = n → 1 ≤ (spl c l).length ∧ (spl c l).length ≤ n + 1 := by
  intro n
  induction n with
  | zero => intro l h; rw [List.eq_nil_of_length_eq_zero h]; simp [spl]
  | succ n ih =>
    intro l h
    obtain ⟨l', u, rfl⟩ := snoc_of (l := l) (by intro h0; rw [h0] at h; simp at h)
    have h1 := ih l' (by simpa using h)
    have h2 := step_len c (spl c l') u h1.1
    rw [spl_snoc]
    omega

theorem spl_part (c : UInt8) : ∀ (n : Nat) (l : List UInt8), l.length = n → ∀ t ∈ spl c l, t.length ≤ n := by
  intro n
  induction n with
  | zero => intro l h; rw [List.eq_nil_of_length_eq_zero h]; simp [spl]
  | succ n ih =>
    intro l h t ht
    obtain ⟨l', u, rfl⟩ := snoc_of (l := l) (by intro h0; rw [h0] at h; simp at h)
    have hl : l'.length = n := by simpa using h
    have h1 := ih l' hl
    have h2 := (spl_len c n l' hl).1
    rw [spl_snoc] at ht
    unfold step at ht
    split at ht
    · simp only [List.mem_append, List.mem_singleton] at ht
      rcases ht with ht | rfl
      · have := h1 t ht; omega
      · simp
    · simp only [List.mem_append, List.mem_singleton] at ht
      rcases ht with ht | rfl
      · have := h1 t ((List.dropLast_sublist _).subset ht); omega
      · have hne : spl c l' ≠ [] := by intro h0; rw [h0] at h2; simp at h2
        have := h1 ((spl c l').getLastD []) (by rw [List.getLastD_eq_getLast?, List.getLast?_eq_some_getLast hne]; exact List.getLast_mem hne)
        rw [List.length_append, List.length_singleton]; omega

theorem step_last (c : UInt8) (pre : List (List UInt8)) (t : List UInt8) (u : UInt8) : step c (pre ++ [t]) u = if u = c then pre ++ [t] ++ [[]] else pre ++ [t ++ [u]] := by
  unfold step
  split
  · rfl
  · rw [List.dropLast_concat, List.getLastD_concat]

theorem fold_pre (c : UInt8) : ∀ (l : List UInt8) (pre : List (List UInt8)) (t : List UInt8), l.foldl (step c) (pre ++ [t]) = pre ++ l.foldl (step c) [t]
  | [], _, _ => rfl
  | u :: l, pre, t => by
    have e := step_last c [] t u
    rw [List.nil_append] at e
    rw [List.foldl_cons, List.foldl_cons, step_last, e]
    split
    · rw [fold_pre c l (pre ++ [t]) [], fold_pre c l [t] [], List.append_assoc]
    · rw [fold_pre c l pre, List.nil_append]

theorem fold_cut (c : UInt8) : ∀ (l : List UInt8) (t : List UInt8), l.foldl (step c) [t] = if (cutL c l).2.2 = true then (t ++ (cutL c l).1) :: spl c (cutL c l).2.1 else [t ++ l]
  | [], t => by simp [cutL]
  | b :: l, t => by
    have e := step_last c [] t b
    rw [List.nil_append] at e
    rw [List.foldl_cons, e]
    unfold cutL
    split
    · rw [fold_pre c l [t] [], if_pos rfl]
      simp [spl]
    · rw [List.nil_append, fold_cut c l (t ++ [b])]
      simp only [List.append_assoc, List.cons_append, List.nil_append]

theorem spl_cut (c : UInt8) (l : List UInt8) : spl c l = if (cutL c l).2.2 = true then (cutL c l).1 :: spl c (cutL c l).2.1 else [l] := by
  have := fold_cut c l []
  simpa [spl] using this

theorem pgo_spl {c : UInt8} {rV : List UInt8 → Int} {rB : List UInt8 → Bool} {bits : Nat} : ∀ (n k : Nat) (a b : BitVec 64) (l : List UInt8), pgo c rV rB bits (n + 1) k a b l =
    if (spl c l).length = n + 1 ∧ (spl c l).all rB = true then some (wbs bits ((spl c l).map fun t => (rV t).toNat) k a b) else none := by
  intro n
  induction n with
  | zero =>
    intro k a b l
    rw [pgo, spl_cut c l]
    cases hf : (cutL c l).2.2 with
    | true =>
      have h1 := (spl_len c _ (cutL c l).2.1 rfl).1
      rw [if_pos rfl, if_neg (by simp), if_neg (by rw [List.length_cons]; omega)]
    | false =>
      have hl := ((cutL_back c l).2 hf).1
      rw [if_neg (c := false = true) (by simp), ← hl]
      by_cases hr : rB l = true
      · rw [if_pos ⟨hr, by simp⟩, if_pos ⟨rfl, by simp [hr]⟩]; rfl
      · rw [if_neg (fun h => hr h.1), if_neg (fun h => hr (by simpa using h.2))]
  | succ n ih =>
    intro k a b l
    rw [pgo, spl_cut c l]
    cases hf : (cutL c l).2.2 with
    | true =>
      rw [if_pos rfl]
      by_cases hr : rB (cutL c l).1 = true
      · rw [if_pos ⟨hr, by simp⟩, ih]
        by_cases hc : (spl c (cutL c l).2.1).length = n + 1 ∧ (spl c (cutL c l).2.1).all rB = true
        · rw [if_pos hc, if_pos ⟨by rw [List.length_cons, hc.1], by rw [List.all_cons, hr, hc.2]; rfl⟩]; rfl
        · rw [if_neg hc, if_neg fun h => hc ⟨by have := h.1; rw [List.length_cons] at this; omega, by have := h.2; rw [List.all_cons, hr] at this; simpa using this⟩]
      · rw [if_neg (fun h => hr h.1), if_neg fun h => hr (by have := h.2; rw [List.all_cons, Bool.and_eq_true] at this; exact this.1)]
    | false =>
      rw [if_neg (c := false = true) (by simp), if_neg (by simp), if_neg (by simp)]

theorem hexd_fin : ∀ n : Fin 256, (0 ≤ dgt 16 (UInt8.ofNat n.val) ↔ (48 ≤ n.val ∧ n.val ≤ 57) ∨ (97 ≤ n.val ∧ n.val ≤ 102)) ∧ (48 ≤ n.val → n.val ≤ 57 → dgt 16 (UInt8.ofNat n.val) = (n.val : Int) - 48) ∧
    (97 ≤ n.val → n.val ≤ 102 → dgt 16 (UInt8.ofNat n.val) = (n.val : Int) - 97 + 10) := by decide +kernel

theorem hexd_of (u : UInt8) : (0 ≤ dgt 16 u ↔ (48 ≤ u.toNat ∧ u.toNat ≤ 57) ∨ (97 ≤ u.toNat ∧ u.toNat ≤ 102)) ∧ (48 ≤ u.toNat → u.toNat ≤ 57 → dgt 16 u = (u.toNat : Int) - 48) ∧ (97 ≤ u.toNat → u.toNat ≤ 102 → dgt 16 u = (u.toNat : Int) - 97 + 10) := by
  have := hexd_fin ⟨u.toNat, u.toNat_lt⟩
  simp only [u8_fin] at this
  exact this

/-- What four hexadecimal digits say; -1: they are none. -/
def fourV (l : List UInt8) : Int := if r6B l = true then r6V l else -1

theorem wbs_snoc (bits : Nat) (v : Nat) : ∀ (vs : List Nat) (k : Nat) (a b : BitVec 64),
    wbs bits (vs ++ [v]) k a b = (wbX (wbs bits vs k a b).1 (wbs bits vs k a b).2 ((k + vs.length) * bits) bits v bits, wbY (wbs bits vs k a b).1 (wbs bits vs k a b).2 ((k + vs.length) * bits) bits v bits)
  | [], k, a, b => rfl
  | x :: vs, k, a, b => by
    rw [List.cons_append, wbs, wbs, wbs_snoc bits v vs]
    rw [List.length_cons, show k + 1 + vs.length = k + (vs.length + 1) from by omega]

/-- The bits of an address, those from j on of part k put already. -/
def lin (bits k v j : Nat) (a b : BitVec 64) : List Bool := (List.range 128).map fun p => if bits * k + j ≤ p ∧ p < bits * k + bits then v.testBit (bits - 1 - (p - bits * k)) else bitAt a b p

theorem lin_len (bits k v j : Nat) (a b : BitVec 64) : (lin bits k v j a b).length = 128 := by simp [lin]

theorem lin_set {bits k v j : Nat} {a b : BitVec 64} (h1 : 1 ≤ j) (h2 : j ≤ bits) (h3 : bits * k + bits ≤ 128) : (lin bits k v j a b).set (bits * k + (j - 1)) (v.testBit (bits - j)) = lin bits k v (j - 1) a b := by
  apply List.ext_getElem?
  intro p
  unfold lin
  rw [List.getElem?_set, List.length_map, List.length_range, List.getElem?_map, List.getElem?_map]
  by_cases hp : p < 128
  · rw [List.getElem?_range hp]
    simp only [Option.map_some]
    split
    · rename_i e
      subst e
      rw [if_pos hp, if_pos (by omega), show bits - 1 - (bits * k + (j - 1) - bits * k) = bits - j from by omega]
    · congr 1
      by_cases hc : bits * k + j ≤ p ∧ p < bits * k + bits
      · rw [if_pos hc, if_pos (by omega)]
      · rw [if_neg hc, if_neg (by omega)]
  · rw [List.getElem?_eq_none (by simp; omega)]
    simp only [Option.map_none]
    split
    · omega
    · rfl

/-- The bits of an address. -/
def bl (a b : BitVec 64) : List Bool := (List.range 128).map fun p => bitAt a b p

theorem lin_top (bits k v : Nat) (a b : BitVec 64) : lin bits k v bits a b = bl a b := by
  unfold lin bl
  apply List.map_congr_left
  intro p _
  rw [if_neg (by omega)]

theorem lin_last {bits k v : Nat} {a b : BitVec 64} : lin bits k v 0 a b = bl (wbX a b (k * bits) bits v bits) (wbY a b (k * bits) bits v bits) := by
  unfold lin bl
  apply List.map_congr_left
  intro p hp
  have hp : p < 128 := by simpa using hp
  rw [wb_bit _ _ _ _ _ _ hp, wbB, Nat.mul_comm bits k]
  by_cases hc : k * bits ≤ p ∧ p < k * bits + bits
  · rw [if_pos hc, if_pos (by omega)]
  · rw [if_neg hc, if_neg (by omega)]

/-- The bits of the first k parts, and those from j on of part k. -/
def pL (bits : Nat) (vs : List Nat) (k j : Nat) : List Bool := lin bits k (vs.getD k 0) j (wbs bits (vs.take k) 0 0#64 0#64).1 (wbs bits (vs.take k) 0 0#64 0#64).2

theorem pL_len (bits : Nat) (vs : List Nat) (k j : Nat) : (pL bits vs k j).length = 128 := lin_len ..

theorem pL_next {bits : Nat} {vs : List Nat} {k : Nat} (h : k < vs.length) : pL bits vs k 0 = pL bits vs (k + 1) bits := by
  unfold pL
  rw [lin_top, lin_last, List.take_add_one, List.getElem?_eq_getElem h]
  simp only [Option.toList_some]
  rw [wbs_snoc, List.length_take, Nat.zero_add, Nat.min_eq_left (by omega), List.getD_eq_getElem?_getD, List.getElem?_eq_getElem h]
  rfl

theorem pL_all (bits : Nat) (vs : List Nat) : pL bits vs vs.length bits = bl (wbs bits vs 0 0#64 0#64).1 (wbs bits vs 0 0#64 0#64).2 := by
  unfold pL
  rw [lin_top, List.take_length]

theorem pL_zero (bits : Nat) (vs : List Nat) : pL bits vs 0 bits = List.replicate 128 false := by
  unfold pL
  rw [lin_top]
  have : bl 0#64 0#64 = List.replicate 128 false := by decide +kernel
  exact this

end Go.Sx.M
