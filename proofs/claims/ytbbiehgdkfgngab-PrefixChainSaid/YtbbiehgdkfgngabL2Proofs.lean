/-
  The laws of layer 2, second part: PrefixLast, PrefixParts, PrefixJoin, PrefixChain, PrefixBetween: the proofs.
-/
import Derived.Test.YtbbiehgdkfgngabL2Laws
namespace Go.Proofs.Ytbbiehgdkfgngab.L1
open Go.Sx Go.Sx.M

def lastHs : List Hint := [.fork [.br true] [.br true, .br true, .br true, .br true]]

theorem last_law (w : Int) (a b : BitVec 64) (n : Int) : ∃ hs, run l2Cs Try.prog 3 [.int .i64 w, .agg [.w64 a, .w64 b, .int .i64 n]] [] hs isTrue := by
  refine ⟨[.fork [.br true] [.br true, .br true, .br true, .br true]], ?_⟩
  rw [last_law_run]
  refine ⟨fun h => ⟨fun _ => ⟨rfl, trivial, rfl⟩, fun h2 => ?_⟩, fun h => ⟨fun h2 => ?_, fun _ => ?_⟩⟩
  · rw [h] at h2; cases h2
  · rw [h] at h2; cases h2
  · obtain ⟨hw, h0, h1, h2⟩ := right_iff.1 h
    refine ⟨h0, h1, by omega, by simp, match_iff.2 fun i hi hn => ?_, of_iff.2 ⟨hw, fun i hi hn => ?_⟩, ?_, trivial, rfl⟩
    · rw [← bitAt_last a b h1 hi, if_neg (by omega)]
    · rw [← bitAt_last a b h1 hi, if_neg (by omega)]
      exact h2 i hi (by omega)
    · rw [decide_eq_true_eq, cmpV_le]
      refine V_sub fun i hi hb => ?_
      rw [← bitAt_last a b h1 hi]
      split
      · rfl
      · exact hb

theorem parts_law (a b : BitVec 64) (n : Int) (c d : BitVec 64) : ∃ hs, run l2Cs Try.prog 4 [.agg [.w64 a, .w64 b, .int .i64 n], .agg [.w64 c, .w64 d]] [] hs isTrue := by
  refine ⟨[.fork [.br true, .br true, .br true, .br true] [.fork [.br true, .br true, .br true, .br true] [.br false, .br false, .nw, .br false, .br false, .br true, .br true, .br true, .br true, .fork [.br true] [.br true]]]], ?_⟩
  rw [parts_law_run]
  simp only [decide_eq_true_eq, decide_eq_false_iff_not]
  refine ⟨fun h => ⟨fun _ => ⟨fun _ => ⟨by simp, by simp, by simp, by simp, trivial, by simp⟩, fun h1 => ⟨fun _ => ⟨by simp, by simp, by simp, by simp, trivial, by simp⟩, fun h2 => absurd h (by omega)⟩⟩, fun h1 h2 => absurd h (by omega)⟩, fun h1 h2 => ⟨fun h => absurd h (by omega), fun _ _ => ⟨fun h => absurd h (by omega), fun _ => ⟨fun h => absurd h (by omega), fun _ => ?_⟩⟩⟩⟩
  have hp : ∀ i : Nat, i < 128 → bitAt (a &&& mkW (n - 1)) (b &&& mkW (n - 1 - 64)) i = (bitAt a b i && decide ((i : Int) < n - 1)) := fun i hi => bitAt_cut a b (n - 1) hi
  have hs : ∀ i : Nat, i < 128 → bitAt ((put a (n - 1) !bitZ a b (n - 1)) &&& mkW n) ((put b (n - 1 - 64) !bitZ a b (n - 1)) &&& mkW (n - 64)) i = ((if (i : Int) = n - 1 then !bitAt a b (n - 1).toNat else bitAt a b i) && decide ((i : Int) < n)) := fun i hi => bitAt_sib h1 h2 hi
  generalize (put a (n - 1) !bitZ a b (n - 1)) &&& mkW n = s at hs
  generalize (put b (n - 1 - 64) !bitZ a b (n - 1)) &&& mkW (n - 64) = t at hs
  generalize a &&& mkW (n - 1) = p at hp
  generalize b &&& mkW (n - 1 - 64) = q at hp
  have hlast : ((n - 1).toNat : Int) = n - 1 := by omega
  have hlt : (n - 1).toNat < 128 := by omega
  have hps : ∀ i : Nat, i < 128 → (i : Int) < n - 1 → bitAt p q i = bitAt a b i ∧ bitAt s t i = bitAt a b i := fun i hi hn => by
    refine ⟨by rw [hp i hi, decide_eq_true hn, Bool.and_true], by rw [hs i hi, if_neg (by omega), decide_eq_true (by omega), Bool.and_true]⟩
  have hsl : bitAt s t (n - 1).toNat = !bitAt a b (n - 1).toNat := by rw [hs _ hlt, if_pos hlast, decide_eq_true (by omega), Bool.and_true]
  have apart : bitAt a b (n - 1).toNat ≠ bitAt s t (n - 1).toNat := by rw [hsl]; cases bitAt a b (n - 1).toNat <;> simp
  refine ⟨by simp, by simp, inR (by omega) (by omega), by simp, by simp, ?_, ?_, ?_, ?_, fun hm => ⟨?_, trivial, by simp⟩, fun hm => ⟨?_, trivial, by simp⟩⟩
  · rw [Bool.and_eq_true, decide_eq_true_eq]
    exact ⟨by omega, match_iff.2 fun i hi hn => (hps i hi hn).1⟩
  · rw [Bool.and_eq_true, decide_eq_true_eq]
    exact ⟨by omega, match_iff.2 fun i hi hn => (hps i hi hn).1.trans (hps i hi hn).2.symm⟩
  · rw [match_false ⟨(n - 1).toNat, hlt, by omega, apart⟩]; simp
  · rw [match_false ⟨(n - 1).toNat, hlt, by omega, Ne.symm apart⟩]; simp
  · rw [beq_iff_eq]
    exact match_iff.2 fun i hi hn => (hps i hi hn).1.trans (match_iff.1 hm i hi (by omega))
  · rw [beq_iff_eq, Bool.eq_iff_iff, match_iff, match_iff]
    refine ⟨fun h i hi hn => ?_, fun h i hi hn => (hps i hi hn).1.trans ((hps i hi hn).2.symm.trans (h i hi (by omega)))⟩
    by_cases hl : (i : Int) < n - 1
    · exact (hps i hi hl).2.trans ((hps i hi hl).1.symm.trans (h i hi hl))
    · have e : i = (n - 1).toNat := by omega
      subst e
      rw [hsl]
      have hne : bitAt a b (n - 1).toNat ≠ bitAt c d (n - 1).toNat := fun he => by
        have : matchB a b n c d = true := match_iff.2 fun j hj hjn => by
          by_cases hjl : (j : Int) < n - 1
          · exact (hps j hj hjl).1.symm.trans (h j hj hjl)
          · have : j = (n - 1).toNat := by omega
            rw [this]; exact he
        rw [this] at hm; cases hm
      revert hne
      cases bitAt a b (n - 1).toNat <;> cases bitAt c d (n - 1).toNat <;> simp

theorem min3_spec (x y z : Int) : min3 x y z ≤ x ∧ min3 x y z ≤ y ∧ min3 x y z ≤ z ∧ (min3 x y z = x ∨ min3 x y z = y ∨ min3 x y z = z) := by
  unfold min3; split <;> split <;> omega

theorem join_law (a b : BitVec 64) (n : Int) (c d : BitVec 64) (m : Int) (e f : BitVec 64) (k : Int) : ∃ hs, run l2Cs Try.prog 5 [.agg [.w64 a, .w64 b, .int .i64 n], .agg [.w64 c, .w64 d, .int .i64 m], .agg [.w64 e, .w64 f], .int .i64 k] [] hs isTrue := by
  refine ⟨[.fork [] [.fork [] [.br false, .br false, .br false, .br false, .fork [] [.fork [] [.br true]]]]], ?_⟩
  rw [join_law_run]
  refine ⟨fun _ => ⟨trivial, rfl⟩, fun h1 => ⟨fun _ => ⟨trivial, rfl⟩, fun h2 => ?_⟩⟩
  obtain ⟨_, n0, n1, hp⟩ := right_iff.1 (show rightB 128 a b n = true by simpa using h1)
  obtain ⟨_, m0, m1, hq⟩ := right_iff.1 (show rightB 128 c d m = true by simpa using h2)
  have hc := com_spec (bitAt a b) (bitAt c d)
  rw [com_comm (bitAt c d) (bitAt a b)]
  generalize com (bitAt a b) (bitAt c d) = z at hc
  have hz := hc.le
  obtain ⟨j1, j2, j3, j4⟩ := min3_spec n m z
  obtain ⟨g1, g2, g3, g4⟩ := min3_spec m n z
  have hj : min3 m n z = min3 n m z := by omega
  rw [hj]
  generalize min3 n m (z : Int) = j at *
  have cj : clamp j = j := clamp_id (by omega) (by omega)
  rw [cj]
  have bj : ∀ i : Nat, i < 128 → bitAt (a &&& mkW j) (b &&& mkW (j - 64)) i = (bitAt a b i && decide ((i : Int) < j)) := fun i hi => bitAt_cut a b j hi
  have bx : ∀ i : Nat, i < 128 → bitAt (e &&& mkW k) (f &&& mkW (k - 64)) i = (bitAt e f i && decide ((i : Int) < k)) := fun i hi => bitAt_cut e f k hi
  have same : (a &&& mkW j == c &&& mkW j && b &&& mkW (j - 64) == d &&& mkW (j - 64)) = true := cut_iff.2 fun i hi hn => hc.same i (by omega)
  have same2 : (a &&& mkW j == c &&& mkW j && b &&& mkW (j - 64) == d &&& mkW (j - 64) && j == j) = true := by rw [same]; simp
  rw [Bool.and_assoc] at same2
  generalize hP : a &&& mkW j = P at *
  generalize hQ : b &&& mkW (j - 64) = Q at *
  generalize e &&& mkW k = X at *
  generalize f &&& mkW (k - 64) = Y at *
  refine ⟨?_, ?_, ?_, ?_, fun _ => ⟨trivial, rfl⟩, fun h3 => ⟨fun _ => ⟨trivial, rfl⟩, fun h4 => ⟨?_, trivial, rfl⟩⟩⟩
  · rw [Bool.not_eq_false']
    exact right_iff.2 ⟨.inr rfl, by omega, by omega, fun i hi hn => by rw [bj i hi, decide_eq_false (by omega), Bool.and_false]⟩
  · rw [Bool.not_eq_false', Bool.and_eq_true, decide_eq_true_eq]
    exact ⟨by omega, match_iff.2 fun i hi hn => by rw [bj i hi, decide_eq_true hn, Bool.and_true]⟩
  · rw [Bool.not_eq_false', Bool.and_eq_true, decide_eq_true_eq]
    exact ⟨by omega, match_iff.2 fun i hi hn => by rw [bj i hi, decide_eq_true hn, Bool.and_true]; exact hc.same i (by omega)⟩
  · rw [Bool.not_eq_false']
    simpa [Bool.and_assoc] using same2
  · rw [Bool.not_eq_false', Bool.and_eq_true, decide_eq_true_eq] at h3 h4
    obtain ⟨x1, x2⟩ := h3
    obtain ⟨x3, x4⟩ := h4
    have hk : clamp k ≤ (z : Int) := by
      by_cases h : (z : Int) < clamp k
      · have hz2 : z < 128 := by unfold clamp at h; omega
        exact absurd ((match_iff.1 x2 z hz2 h).symm.trans (match_iff.1 x4 z hz2 h)) (hc.other hz2)
      · omega
    rw [Bool.and_eq_true, decide_eq_true_eq]
    refine ⟨by omega, match_iff.2 fun i hi hn => ?_⟩
    rw [bj i hi, decide_eq_true (by omega), Bool.and_true]
    exact match_iff.1 x2 i hi hn

theorem right_ext {a b : BitVec 64} {n : Int} {c d : BitVec 64} (h1 : rightB 128 a b n = true) (h2 : rightB 128 c d n = true) (h : matchB a b n c d = true) : a = c ∧ b = d := by
  obtain ⟨_, _, _, hp⟩ := right_iff.1 h1
  obtain ⟨_, _, _, hq⟩ := right_iff.1 h2
  refine bitAt_eq fun i hi => ?_
  by_cases hn : (i : Int) < n
  · exact match_iff.1 h i hi hn
  · rw [hp i hi (by omega), hq i hi (by omega)]

theorem chain_law (a b : BitVec 64) (n : Int) (c d : BitVec 64) (m : Int) (e f : BitVec 64) (k : Int) : ∃ hs, run l2Cs Try.prog 6 [.agg [.w64 a, .w64 b, .int .i64 n], .agg [.w64 c, .w64 d, .int .i64 m], .agg [.w64 e, .w64 f, .int .i64 k]] [] hs isTrue := by
  refine ⟨[.fork [] [.fork [] [.fork [] [.fork [.br true, .br true] [.fork [.br false, .fork [.br true] [.br true, .br true]] [.br true, .br false, .fork [.br true] [.br true, .br true]]]]]]], ?_⟩
  rw [chain_law_run]
  have hz : ((cmpP a b n c d m == 0) == (a == c && b == d && n == m)) = true := by
    rw [beq_iff_eq, Bool.eq_iff_iff, beq_iff_eq, Bool.and_eq_true, Bool.and_eq_true, beq_iff_eq, beq_iff_eq, beq_iff_eq, cmpP_zero, and_assoc]
  refine ⟨fun _ => ⟨trivial, rfl⟩, fun h1 => ⟨fun _ => ⟨trivial, rfl⟩, fun h2 => ⟨fun _ => ⟨trivial, rfl⟩, fun _ => ?_⟩⟩⟩
  have r1 : rightB 128 a b n = true := by simpa using h1
  have r2 : rightB 128 c d m = true := by simpa using h2
  have anti : (!(decide (n ≤ m) && matchB a b n c d)) = false → (!(decide (m ≤ n) && matchB c d m a b)) = false → (a == c && b == d && n == m) = true := fun x y => by
    rw [Bool.not_eq_false', Bool.and_eq_true, decide_eq_true_eq] at x y
    have : n = m := by omega
    subst this
    obtain ⟨rfl, rfl⟩ := right_ext r1 r2 x.2
    simp
  refine ⟨fun h => ⟨h, hz, trivial, rfl⟩, fun h => ⟨fun _ => ⟨h, fun _ => ⟨hz, trivial, rfl⟩, fun h4 => ⟨anti h h4, hz, trivial, rfl⟩⟩, fun h3 => ⟨?_, h, fun _ => ⟨hz, trivial, rfl⟩, fun h4 => ⟨anti h h4, hz, trivial, rfl⟩⟩⟩⟩
  rw [Bool.not_eq_false', Bool.and_eq_true, decide_eq_true_eq] at h h3
  rw [Bool.and_eq_true, decide_eq_true_eq]
  exact ⟨by omega, match_iff.2 fun i hi hn => (match_iff.1 h.2 i hi hn).trans (match_iff.1 h3.2 i hi (by omega))⟩

theorem between_law (w : Int) (a b : BitVec 64) (n : Int) (c d : BitVec 64) : ∃ hs, run l2Cs Try.prog 7 [.int .i64 w, .agg [.w64 a, .w64 b, .int .i64 n], .agg [.w64 c, .w64 d]] [] hs isTrue := by
  refine ⟨[.fork [] [.fork [] [.fork [.br true] [.br true]]]], ?_⟩
  rw [between_law_run]
  refine ⟨fun _ => ⟨trivial, rfl⟩, fun h1 => ⟨fun _ => ⟨trivial, rfl⟩, fun h2 => ?_⟩⟩
  have r1 : rightB w a b n = true := by simpa using h1
  obtain ⟨_, n0, n1, hp⟩ := right_iff.1 r1
  obtain ⟨_, hq⟩ := of_iff.1 (show ofB w c d = true by simpa using h2)
  have up : matchB a b n c d = true → V a b ≤ V c d ∧ V c d ≤ V (lastW w a n) (lastW (w - 64) b (n - 64)) := fun hm => by
    refine ⟨V_sub fun i hi hb => ?_, V_sub fun i hi hb => ?_⟩
    · by_cases hn : (i : Int) < n
      · rw [← match_iff.1 hm i hi hn]; exact hb
      · rw [hp i hi (by omega)] at hb; cases hb
    · rw [← bitAt_last a b n1 hi]
      by_cases hn : (i : Int) < n
      · rw [if_neg (by omega), match_iff.1 hm i hi hn]; exact hb
      · by_cases hw : (i : Int) < w
        · rw [if_pos ⟨by omega, hw⟩]
        · rw [hq i hi (by omega)] at hb; cases hb
  have down : V a b ≤ V c d → V c d ≤ V (lastW w a n) (lastW (w - 64) b (n - 64)) → matchB a b n c d = true := fun h3 h4 => by
    cases hm : matchB a b n c d with
    | true => rfl
    | false =>
      exfalso
      have hs := com_spec (bitAt a b) (bitAt c d)
      have hlt : (com (bitAt a b) (bitAt c d) : Int) < n := by
        by_cases h : (com (bitAt a b) (bitAt c d) : Int) < n
        · exact h
        · rw [match_iff.2 fun i hi hn => hs.same i (by omega)] at hm; cases hm
      generalize com (bitAt a b) (bitAt c d) = z at hs hlt
      have hz : z < 128 := by
        have := hs.le
        rcases Nat.lt_or_eq_of_le this with h | h
        · exact h
        · subst h
          rw [match_iff.2 fun i hi hn => hs.same i hi] at hm; cases hm
      have ho := hs.other hz
      cases ha : bitAt a b z with
      | true =>
        cases hc : bitAt c d z with
        | true => rw [ha, hc] at ho; exact ho rfl
        | false =>
          have := V_less hz (fun i hi => (hs.same i hi).symm) hc ha
          omega
      | false =>
        cases hc : bitAt c d z with
        | false => rw [ha, hc] at ho; exact ho rfl
        | true =>
          have := V_less (a := lastW w a n) (b := lastW (w - 64) b (n - 64)) hz (fun i hi => by
            rw [← bitAt_last a b n1 (by omega), if_neg (by omega)]; exact hs.same i hi) (by rw [← bitAt_last a b n1 hz, if_neg (by omega)]; exact ha) hc
          omega
  simp only [decide_eq_true_eq, decide_eq_false_iff_not, cmpV_ge]
  refine ⟨fun hge => ⟨fun h => ?_, fun _ => ⟨?_, trivial, by simp⟩⟩, fun hlt => ⟨?_, trivial, by simp⟩⟩
  · rw [r1] at h; cases h
  · rw [beq_iff_eq, Bool.eq_iff_iff, decide_eq_true_eq, cmpV_le]
    exact ⟨fun hm => (up hm).2, fun h => down hge h⟩
  · rw [beq_iff_eq]
    cases hm : matchB a b n c d with
    | false => rfl
    | true => exact absurd (up hm).1 hlt

theorem l2_any : ∃ C : Sx.Call, COK Try.prog false C ∧ (∀ (w : Int) (a b : BitVec 64) (n : Int), ∃ hs, C 3 [.int .i64 w, .agg [.w64 a, .w64 b, .int .i64 n]] [] hs isTrue) ∧
    (∀ (a b : BitVec 64) (n : Int) (c d : BitVec 64), ∃ hs, C 4 [.agg [.w64 a, .w64 b, .int .i64 n], .agg [.w64 c, .w64 d]] [] hs isTrue) ∧
    (∀ (a b : BitVec 64) (n : Int) (c d : BitVec 64) (m : Int) (e f : BitVec 64) (k : Int), ∃ hs, C 5 [.agg [.w64 a, .w64 b, .int .i64 n], .agg [.w64 c, .w64 d, .int .i64 m], .agg [.w64 e, .w64 f], .int .i64 k] [] hs isTrue) ∧
    (∀ (a b : BitVec 64) (n : Int) (c d : BitVec 64) (m : Int) (e f : BitVec 64) (k : Int), ∃ hs, C 6 [.agg [.w64 a, .w64 b, .int .i64 n], .agg [.w64 c, .w64 d, .int .i64 m], .agg [.w64 e, .w64 f, .int .i64 k]] [] hs isTrue) ∧
    ∀ (w : Int) (a b : BitVec 64) (n : Int) (c d : BitVec 64), ∃ hs, C 7 [.int .i64 w, .agg [.w64 a, .w64 b, .int .i64 n], .agg [.w64 c, .w64 d]] [] hs isTrue :=
  ⟨run l2Cs Try.prog, run_ok (l := l2Cs) l2Cs_ok mixed noNG, last_law, parts_law, join_law, chain_law, between_law⟩

theorem last_holds : Rows.PrefixLastSaid :=
  prefixLast_of fun a b0 b1 b2 w => by
    obtain ⟨C, hC, h, _⟩ := l2_any
    obtain ⟨hs, h⟩ := h a b0 b1 b2
    exact prefixLast_call hC a b0 b1 b2 h w

theorem parts_holds : Rows.PrefixPartsSaid :=
  prefixParts_of fun a0 a1 a2 b0 b1 w => by
    obtain ⟨C, hC, _, h, _⟩ := l2_any
    obtain ⟨hs, h⟩ := h a0 a1 a2 b0 b1
    exact prefixParts_call hC a0 a1 a2 b0 b1 h w

theorem join_holds : Rows.PrefixJoinSaid :=
  prefixJoin_of fun a0 a1 a2 b0 b1 b2 c0 c1 d w => by
    obtain ⟨C, hC, _, _, h, _⟩ := l2_any
    obtain ⟨hs, h⟩ := h a0 a1 a2 b0 b1 b2 c0 c1 d
    exact prefixJoin_call hC a0 a1 a2 b0 b1 b2 c0 c1 d h w

theorem chain_holds : Rows.PrefixChainSaid :=
  prefixChain_of fun a0 a1 a2 b0 b1 b2 c0 c1 c2 w => by
    obtain ⟨C, hC, _, _, _, h, _⟩ := l2_any
    obtain ⟨hs, h⟩ := h a0 a1 a2 b0 b1 b2 c0 c1 c2
    exact prefixChain_call hC a0 a1 a2 b0 b1 b2 c0 c1 c2 h w

theorem between_holds : Rows.PrefixBetweenSaid :=
  prefixBetween_of fun a b0 b1 b2 c0 c1 w => by
    obtain ⟨C, hC, _, _, _, _, h⟩ := l2_any
    obtain ⟨hs, h⟩ := h a b0 b1 b2 c0 c1
    exact prefixBetween_call hC a b0 b1 b2 c0 c1 h w

#print axioms last_holds
#print axioms parts_holds
#print axioms join_holds
#print axioms chain_holds
#print axioms between_holds
end Go.Proofs.Ytbbiehgdkfgngab.L1
