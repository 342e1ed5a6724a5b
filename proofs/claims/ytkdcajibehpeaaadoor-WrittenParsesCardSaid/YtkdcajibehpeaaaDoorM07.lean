/-
  Plain mathematics: what is written is read as it was, and only that.
-/
import Derived.Test.YtkdcajibehpeaaaDoorM06
namespace Go.Sx.M

theorem dgt10_fin : ∀ n : Fin 256, 0 ≤ dgt 10 (UInt8.ofNat n.val) → UInt8.ofNat n.val = UInt8.ofNat (48 + (dgt 10 (UInt8.ofNat n.val)).toNat) := by decide +kernel
theorem dgt16_fin : ∀ n : Fin 256, 0 ≤ dgt 16 (UInt8.ofNat n.val) → hx (dgt 16 (UInt8.ofNat n.val)).toNat = UInt8.ofNat n.val := by decide +kernel
theorem hx_fin : ∀ n : Fin 16, dgt 16 (hx n.val) = (n.val : Int) := by decide +kernel
theorem chr_fin : ∀ n : Fin 10, dgt 10 (UInt8.ofNat (48 + n.val)) = (n.val : Int) := by decide +kernel

theorem u8_fin (u : UInt8) : UInt8.ofNat u.toNat = u := UInt8.ofNat_toNat

theorem dgt10_chr {u : UInt8} (h : 0 ≤ dgt 10 u) : u = UInt8.ofNat (48 + (dgt 10 u).toNat) := by
  have := dgt10_fin ⟨u.toNat, u.toNat_lt⟩
  simp only [u8_fin] at this
  exact this h
theorem dgt16_hx {u : UInt8} (h : 0 ≤ dgt 16 u) : hx (dgt 16 u).toNat = u := by
  have := dgt16_fin ⟨u.toNat, u.toNat_lt⟩
  simp only [u8_fin] at this
  exact this h
theorem hx_dgt {n : Nat} (h : n < 16) : dgt 16 (hx n) = (n : Int) := hx_fin ⟨n, h⟩
theorem chr_dgt {n : Nat} (h : n < 10) : dgt 10 (UInt8.ofNat (48 + n)) = (n : Int) := chr_fin ⟨n, h⟩

theorem snoc_of {l : List UInt8} (h : l ≠ []) : ∃ l' u, l = l' ++ [u] := ⟨l.dropLast, l.getLast h, (List.dropLast_concat_getLast h).symm⟩

theorem dec_val : ∀ (n : Nat) (l : List UInt8), l.length = n → l ≠ [] → okL 10 l = true → ¬ (1 < l.length ∧ l[0]? = some 48) → Lib.decDigits (valL 10 l).toNat = l ∧ (l[0]? ≠ some 48 → 1 ≤ valL 10 l) := by
  intro n
  induction n with
  | zero => intro l hl hne; exact absurd (List.eq_nil_of_length_eq_zero hl) hne
  | succ n ih =>
    intro l hl hne hk hz
    obtain ⟨l', u, rfl⟩ := snoc_of hne
    rw [okL_snoc, Bool.and_eq_true, decide_eq_true_eq] at hk
    have hd := dgt_bound (b := 10) (by omega) u
    have hu := dgt10_chr hk.2
    rw [valL_snoc]
    rcases List.eq_nil_or_concat l' with rfl | ⟨l0, u0, e⟩
    · simp only [List.nil_append, valL, List.foldl_nil]
      rw [show ((0 : Int) * ((10 : Nat) : Int) + dgt 10 u).toNat = (dgt 10 u).toNat from by omega, Lib.decDigits_one (by omega), ← hu]
      refine ⟨rfl, fun h => ?_⟩
      have : dgt 10 u ≠ 0 := by
        intro h0
        rw [h0] at hu
        apply h
        rw [hu]; rfl
      omega
    · have hne' : l' ≠ [] := by rw [e]; simp
      have hlen : 1 ≤ l'.length := by rw [e]; simp
      have h0 : (l' ++ [u])[0]? = l'[0]? := List.getElem?_append_left (by omega)
      rw [h0] at hz ⊢
      have hz' : l'[0]? ≠ some 48 := fun h => hz ⟨by rw [List.length_append]; simp; omega, h⟩
      obtain ⟨h1, h2⟩ := ih l' (by simpa using hl) hne' hk.1 fun h => hz' h.2
      have h3 := h2 hz'
      refine ⟨?_, fun _ => by omega⟩
      rw [Lib.decDigits, dif_neg (by omega), show (valL 10 l' * ((10 : Nat) : Int) + dgt 10 u).toNat / 10 = (valL 10 l').toNat from by omega,
        show (valL 10 l' * ((10 : Nat) : Int) + dgt 10 u).toNat % 10 = (dgt 10 u).toNat from by omega, h1, ← hu]

theorem dec_head : ∀ (n k : Nat), k ≤ n → 10 ≤ k → (Lib.decDigits k)[0]? ≠ some 48 := by
  intro n
  induction n with
  | zero => intro k h1 h2; omega
  | succ n ih =>
    intro k h1 h2
    rw [Lib.decDigits, dif_neg (by omega)]
    have hl : 0 < (Lib.decDigits (k / 10)).length := by rw [Lib.decDigits]; split <;> simp
    rw [List.getElem?_append_left hl]
    by_cases h3 : k / 10 < 10
    · rw [Lib.decDigits_one h3]
      intro h
      have h4 : UInt8.ofNat (48 + k / 10) = 48 := by simpa using h
      have := chr_dgt h3
      rw [h4] at this
      have e : dgt 10 48 = 0 := by decide +kernel
      rw [e] at this
      omega
    · exact ih (k / 10) (by omega) (by omega)

theorem dec_num {l : List UInt8} {m : Int} (h : numOK l m = true) : Lib.decDigits (numV l m).toNat = l := by
  have h' := h
  unfold numOK at h'
  simp only [Bool.and_eq_true, decide_eq_true_eq, Bool.not_eq_true', Bool.and_eq_false_iff, decide_eq_false_iff_not] at h'
  unfold numV
  rw [h, if_pos rfl]
  refine (dec_val _ l rfl h'.2.2.2.1 h'.2.2.1 fun h2 => ?_).1
  rcases h'.2.1 with h1 | h1
  · exact h1 h2.1
  · exact h1 h2.2

theorem num_fin : ∀ n : Fin 256, numOK (Lib.decDigits n.val) 255 = true ∧ numV (Lib.decDigits n.val) 255 = (n.val : Int) := by decide +kernel
theorem num128_fin : ∀ n : Fin 129, numOK (Lib.decDigits n.val) 128 = true ∧ numV (Lib.decDigits n.val) 128 = (n.val : Int) := by decide +kernel
theorem dot_fin : ∀ n : Fin 256, (Lib.decDigits n.val).contains 46 = false := by decide +kernel
theorem slash_fin : ∀ n : Fin 256, (Lib.decDigits n.val).contains 47 = false := by decide +kernel
theorem colon_fin : ∀ n : Fin 256, (Lib.decDigits n.val).contains 58 = false := by decide +kernel
theorem hxno_fin : ∀ n : Fin 16, hx n.val ≠ 46 ∧ hx n.val ≠ 47 ∧ hx n.val ≠ 58 := by decide +kernel

theorem hex4_of {l : List UInt8} (h : r6B l = true) : hex4 (r6V l).toNat = l := by
  unfold r6B valB at h
  simp only [Bool.and_eq_true, decide_eq_true_eq] at h
  obtain ⟨h4, hk, _⟩ := h
  unfold r6V valV
  rw [if_pos h4, if_pos hk]
  match l, h4, hk with
  | [a, b, c, d], _, hk =>
    simp only [okL, List.all_cons, List.all_nil, Bool.and_eq_true, decide_eq_true_eq] at hk
    have ha := dgt_bound (b := 16) (by omega) a
    have hb := dgt_bound (b := 16) (by omega) b
    have hc := dgt_bound (b := 16) (by omega) c
    have hd := dgt_bound (b := 16) (by omega) d
    have ea := dgt16_hx hk.1
    have eb := dgt16_hx hk.2.1
    have ec := dgt16_hx hk.2.2.1
    have ed := dgt16_hx hk.2.2.2.1
    simp only [valL, List.foldl_cons, List.foldl_nil]
    generalize dgt 16 a = x at *
    generalize dgt 16 b = y at *
    generalize dgt 16 c = z at *
    generalize dgt 16 d = t at *
    unfold hex4
    rw [show ((((0 * ((16 : Nat) : Int) + x) * ((16 : Nat) : Int) + y) * ((16 : Nat) : Int) + z) * ((16 : Nat) : Int) + t).toNat / 4096 = x.toNat from by omega,
      show ((((0 * ((16 : Nat) : Int) + x) * ((16 : Nat) : Int) + y) * ((16 : Nat) : Int) + z) * ((16 : Nat) : Int) + t).toNat / 256 % 16 = y.toNat from by omega,
      show ((((0 * ((16 : Nat) : Int) + x) * ((16 : Nat) : Int) + y) * ((16 : Nat) : Int) + z) * ((16 : Nat) : Int) + t).toNat / 16 % 16 = z.toNat from by omega,
      show ((((0 * ((16 : Nat) : Int) + x) * ((16 : Nat) : Int) + y) * ((16 : Nat) : Int) + z) * ((16 : Nat) : Int) + t).toNat % 16 = t.toNat from by omega, ea, eb, ec, ed]

theorem of_hex4 {v : Nat} (h : v < 65536) : r6B (hex4 v) = true ∧ r6V (hex4 v) = (v : Int) := by
  have e1 := hx_dgt (n := v / 4096) (by omega)
  have e2 := hx_dgt (n := v / 256 % 16) (by omega)
  have e3 := hx_dgt (n := v / 16 % 16) (by omega)
  have e4 := hx_dgt (n := v % 16) (by omega)
  have hk : okL 16 (hex4 v) = true := by
    unfold hex4 okL
    simp only [List.all_cons, List.all_nil, Bool.and_eq_true, decide_eq_true_eq]
    exact ⟨by omega, by omega, by omega, by omega, trivial⟩
  have h4 : (hex4 v).length = 4 := rfl
  refine ⟨?_, ?_⟩
  · unfold r6B valB
    rw [hk, h4]; simp [hex4]
  · unfold r6V valV
    rw [if_pos h4, if_pos hk]
    unfold hex4 valL
    simp only [List.foldl_cons, List.foldl_nil]
    rw [e1, e2, e3, e4]
    omega

theorem cutL_no {c : UInt8} : ∀ {l : List UInt8}, c ∉ l → cutL c l = (l, [], false)
  | [], _ => rfl
  | b :: l, h => by
    simp only [List.mem_cons, not_or] at h
    rw [cutL, if_neg (fun e => h.1 e.symm), cutL_no h.2]

theorem cutL_at {c : UInt8} {m : List UInt8} : ∀ {l : List UInt8}, c ∉ l → cutL c (l ++ [c] ++ m) = (l, m, true)
  | [], _ => by simp [cutL]
  | b :: l, h => by
    simp only [List.mem_cons, not_or] at h
    have := cutL_at (m := m) h.2
    simp only [List.cons_append]
    rw [cutL, if_neg (fun e => h.1 e.symm), this]

theorem cutL_back (c : UInt8) : ∀ l : List UInt8, ((cutL c l).2.2 = true → l = (cutL c l).1 ++ [c] ++ (cutL c l).2.1) ∧ ((cutL c l).2.2 = false → l = (cutL c l).1 ∧ (cutL c l).2.1 = [])
  | [] => by simp [cutL]
  | b :: l => by
    obtain ⟨h1, h2⟩ := cutL_back c l
    unfold cutL
    split
    · rename_i e; subst e; simp
    · refine ⟨fun h => ?_, fun h => ?_⟩
      · have := h1 h
        simp only [List.cons_append, List.cons.injEq, true_and]
        exact this
      · obtain ⟨h3, h4⟩ := h2 h
        exact ⟨by simp only [List.cons.injEq, true_and]; exact h3, h4⟩

theorem join_two (x y : List UInt8) (r : List (List UInt8)) (c : UInt8) : Lib.join (x :: y :: r) [c] = x ++ [c] ++ Lib.join (y :: r) [c] := by simp [Lib.join, List.intercalate]
theorem join_one' (x : List UInt8) (c : UInt8) : Lib.join [x] [c] = x := Lib.join_one x [c]

/-- Numbers put behind one another, from the k-th place on. -/
def wbs (bits : Nat) : List Nat → Nat → BitVec 64 → BitVec 64 → BitVec 64 × BitVec 64
  | [], _, a, b => (a, b)
  | v :: vs, k, a, b => wbs bits vs (k + 1) (wbX a b (k * bits) bits v bits) (wbY a b (k * bits) bits v bits)

theorem wbs_bit {bits : Nat} (hb : bits = 8 ∨ bits = 16) {i : Nat} (hi : i < 128) : ∀ (vs : List Nat) (k : Nat) (a b : BitVec 64),
    bitAt (wbs bits vs k a b).1 (wbs bits vs k a b).2 i = if k ≤ i / bits ∧ i / bits < k + vs.length then (vs.getD (i / bits - k) 0).testBit (bits - 1 - i % bits) else bitAt a b i := by
  intro vs
  induction vs with
  | nil => intro k a b; rw [if_neg (by simp)]; rfl
  | cons v vs ih =>
    intro k a b
    rw [wbs, ih, wb_bit _ _ _ _ _ _ hi, wbB]
    by_cases h1 : k + 1 ≤ i / bits ∧ i / bits < k + 1 + vs.length
    · have hc : k ≤ i / bits ∧ i / bits < k + (v :: vs).length := by rw [List.length_cons]; omega
      rw [if_pos h1, if_pos hc, show i / bits - k = (i / bits - (k + 1)) + 1 from by omega, List.getD_cons_succ]
    · rw [if_neg h1]
      by_cases h2 : i / bits = k
      · have hc : k ≤ i / bits ∧ i / bits < k + (v :: vs).length := by rw [List.length_cons]; omega
        have h3 : (k * bits ≤ i ∧ i < k * bits + bits) ∧ i - k * bits = i % bits := by
          rcases hb with rfl | rfl <;> omega
        rw [if_pos hc, if_pos h3.1, h3.2, h2, Nat.sub_self, List.getD_cons_zero]
      · have hc : ¬ (k ≤ i / bits ∧ i / bits < k + (v :: vs).length) := by rw [List.length_cons]; omega
        have h3 : ¬ (k * bits ≤ i ∧ i < k * bits + bits) := by
          rcases hb with rfl | rfl <;> omega
        rw [if_neg hc, if_neg h3]

theorem pgo_join {c : UInt8} {rV : List UInt8 → Int} {rB : List UInt8 → Bool} {bits : Nat} {tell : Nat → List UInt8} : ∀ (vs : List Nat) (k : Nat) (a b : BitVec 64), vs ≠ [] →
    (∀ v ∈ vs, c ∉ tell v ∧ rB (tell v) = true ∧ (rV (tell v)).toNat = v) → pgo c rV rB bits vs.length k a b (Lib.join (vs.map tell) [c]) = some (wbs bits vs k a b)
  | [], _, _, _, h, _ => absurd rfl h
  | [v], k, a, b, _, h => by
    obtain ⟨h1, h2, h3⟩ := h v (by simp)
    simp only [List.map_cons, List.map_nil, List.length_cons, List.length_nil, join_one']
    rw [pgo, cutL_no h1, if_pos ⟨h2, rfl⟩, pgo, h3]; rfl
  | v :: v' :: r, k, a, b, _, h => by
    obtain ⟨h1, h2, h3⟩ := h v (by simp)
    have ih := pgo_join (c := c) (rV := rV) (rB := rB) (bits := bits) (tell := tell) (v' :: r) (k + 1) (wbX a b (k * bits) bits v bits) (wbY a b (k * bits) bits v bits) (by simp) fun u hu => h u (by simp at hu ⊢; exact .inr hu)
    rw [List.map_cons, List.map_cons, join_two, List.length_cons, pgo, cutL_at h1, if_pos ⟨h2, by simp⟩, h3]
    exact ih

theorem pgo_back {c : UInt8} {rV : List UInt8 → Int} {rB : List UInt8 → Bool} {bits : Nat} {tell : Nat → List UInt8} (hT : ∀ t, rB t = true → tell (rV t).toNat = t) : ∀ (n k : Nat) (a b : BitVec 64) (l : List UInt8) (x y : BitVec 64),
    pgo c rV rB bits (n + 1) k a b l = some (x, y) → ∃ vs : List Nat, vs.length = n + 1 ∧ l = Lib.join (vs.map tell) [c] ∧ (x, y) = wbs bits vs k a b ∧ ∀ v ∈ vs, ∃ t, rB t = true ∧ v = (rV t).toNat := by
  intro n
  induction n with
  | zero =>
    intro k a b l x y h
    rw [pgo] at h
    split at h
    · rename_i hc
      rw [pgo] at h
      refine ⟨[(rV (cutL c l).1).toNat], rfl, ?_, ?_, by simp; exact ⟨_, hc.1, rfl⟩⟩
      · simp only [List.map_cons, List.map_nil, join_one']
        rw [hT _ hc.1]
        exact ((cutL_back c l).2 (by simpa using hc.2)).1
      · cases h; rfl
    · cases h
  | succ n ih =>
    intro k a b l x y h
    rw [pgo] at h
    split at h
    · rename_i hc
      obtain ⟨vs, h1, h2, h3, h4⟩ := ih _ _ _ _ _ _ h
      refine ⟨(rV (cutL c l).1).toNat :: vs, by simp [h1], ?_, by rw [wbs]; exact h3, fun v hv => ?_⟩
      · obtain ⟨v', r, rfl⟩ : ∃ v' r, vs = v' :: r := by
          cases vs with
          | nil => simp at h1
          | cons v' r => exact ⟨v', r, rfl⟩
        rw [List.map_cons, List.map_cons, join_two, hT _ hc.1, ← List.map_cons, ← h2]
        exact (cutL_back c l).1 (by simpa using hc.2)
      · rcases List.mem_cons.1 hv with rfl | hv
        · exact ⟨_, hc.1, rfl⟩
        · exact h4 v hv
    · cases h

theorem wbs_part {bits : Nat} (hb : bits = 8 ∨ bits = 16) {vs : List Nat} {a b : BitVec 64} {j : Nat} (hj : j < vs.length) (hn : vs.length * bits ≤ 128) (hv : vs.getD j 0 < 2 ^ bits) :
    partV (fun i => bitAt (wbs bits vs 0 a b).1 (wbs bits vs 0 a b).2 (bits * j + i)) bits = vs.getD j 0 := by
  refine Eq.trans (partV_eq bits fun i hi => ?_) (partV_of bits (vs.getD j 0) hv)
  have hlt : bits * j + i < 128 := by rcases hb with rfl | rfl <;> omega
  have e1 : (bits * j + i) / bits = j := by rcases hb with rfl | rfl <;> omega
  have e2 : (bits * j + i) % bits = i := by rcases hb with rfl | rfl <;> omega
  rw [wbs_bit hb hlt, e1, e2, if_pos (by omega), Nat.sub_zero]

theorem wbs_parts {bits n : Nat} (hb : bits = 8 ∨ bits = 16) (hn : n * bits ≤ 128) {a b : BitVec 64} (hz : ∀ i, i < 128 → n * bits ≤ i → bitAt a b i = false) :
    wbs bits ((List.range n).map fun k => partV (fun i => bitAt a b (bits * k + i)) bits) 0 0#64 0#64 = (a, b) := by
  have := bitAt_eq (a := (wbs bits ((List.range n).map fun k => partV (fun i => bitAt a b (bits * k + i)) bits) 0 0#64 0#64).1) (b := (wbs bits ((List.range n).map fun k => partV (fun i => bitAt a b (bits * k + i)) bits) 0 0#64 0#64).2) (c := a) (d := b) fun i hi => by
    rw [wbs_bit hb hi]
    simp only [List.length_map, List.length_range, Nat.zero_le, true_and, Nat.zero_add, Nat.sub_zero]
    split
    · rename_i h
      rw [List.getD_eq_getElem?_getD, List.getElem?_map, List.getElem?_range h]
      simp only [Option.map_some, Option.getD_some]
      have h1 : i % bits < bits := Nat.mod_lt _ (by omega)
      rw [partV_bit _ _ _ h1, Nat.div_add_mod]
    · rename_i h
      rw [hz i hi (by rcases hb with rfl | rfl <;> omega)]
      unfold bitAt; split <;> simp
  exact Prod.ext this.1 this.2

end Go.Sx.M
