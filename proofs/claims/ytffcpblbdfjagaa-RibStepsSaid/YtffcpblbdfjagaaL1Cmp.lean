/-
  Layer 1: contracts of the document's and the program's Common and Compare.
-/
import Derived.Test.YtffcpblbdfjagaaL1Com
import Derived.Test.YtffcpblbdfjagaaM04
namespace Go.Proofs.Ytffcpblbdfjagaa.L1
open Go.Sx Go.Sx.M

def comSt (a b c d : BitVec 64) (p : Nat) : St :=
  ⟨[.any, .any, .any, .any, .any, .slice 2 0 128 false, .slice 3 0 128 false, .int .i64 p, .any, .any, .any, .any, .any, .any, .any, .any, .any, .any, .any, .any, .any, .any, .any, .any, .any, .any, .any, .any],
   [none, none, some ⟨true, 4, 1, true, bitsOf a b⟩, some ⟨true, 4, 1, true, bitsOf c d⟩]⟩

def comM0 : Modes := ⟨[0, 0, 0, 0, 0, 1, 1, 2, 0, 0, 0, 0, 0, 0, 0, 0, 0, 0, 0, 0, 0, 0, 0, 0, 0, 0, 0, 0], [0, 1, 2, 3], [0, 0, 1, 1], [], []⟩
def comM : Modes := ⟨[0, 0, 0, 0, 0, 1, 1, 1, 0, 0, 0, 0, 0, 0, 0, 0, 0, 0, 0, 0, 0, 0, 0, 0, 0, 0, 0, 0], [0, 1, 2, 3], [0, 0, 1, 1], [], []⟩

def comI (a b c d : BitVec 64) (p : Nat) : Prop := p ≤ 128 ∧ ∀ i, i < p → bitAt a b i = bitAt c d i

def comH (a b c d : BitVec 64) : List Hint := [.linv _ 0 (comSt a b c d) (comI a b c d) (fun p => 200 - p) comM0 comM comM (fun _ => []) fun p =>
  [.fork [.dy, .cell (.bool (bitAt a b p)), .dy, .cell (.bool (bitAt c d p)), .fork [.nw] []] [.br false]]]

noncomputable def comCs : List (FuncId × Sx.Spec) := [(55, genSpec [none] bitsF)]

theorem com_run (a b c d : BitVec 64) (r : AV) : run comCs Try.prog 68 [.agg [.w64 a, .w64 b], .agg [.w64 c, .w64 d]] [] (comH a b c d) (yields (.v r)) =
    ((Go.Sx.St.mk [Go.Sx.AV.any, Go.Sx.AV.any, Go.Sx.AV.any, Go.Sx.AV.any, Go.Sx.AV.any, Go.Sx.AV.slice ((0 : Nat) + (1 : Nat) + (1 : Nat)) (0 : Nat) (List.length (Go.Proofs.Ytffcpblbdfjagaa.L1.bitsOf a b)) Bool.false, Go.Sx.AV.slice ((0 : Nat) + (1 : Nat) + (1 : Nat) + (1 : Nat)) (0 : Nat) (List.length (Go.Proofs.Ytffcpblbdfjagaa.L1.bitsOf c d)) Bool.false, Go.Sx.AV.int Go.IntKind.i64 (0 : Int), Go.Sx.AV.any, Go.Sx.AV.any, Go.Sx.AV.any, Go.Sx.AV.any, Go.Sx.AV.any, Go.Sx.AV.any, Go.Sx.AV.any, Go.Sx.AV.any, Go.Sx.AV.any, Go.Sx.AV.any, Go.Sx.AV.any, Go.Sx.AV.any, Go.Sx.AV.any, Go.Sx.AV.any, Go.Sx.AV.any, Go.Sx.AV.any, Go.Sx.AV.any, Go.Sx.AV.any, Go.Sx.AV.any, Go.Sx.AV.any] [Option.none, Option.none, Option.some (Go.Sx.Blk.mk Bool.true (4 : Go.TypeId) (1 : Nat) Bool.true (Go.Proofs.Ytffcpblbdfjagaa.L1.bitsOf a b)), Option.some (Go.Sx.Blk.mk Bool.true (4 : Go.TypeId) (1 : Nat) Bool.true (Go.Proofs.Ytffcpblbdfjagaa.L1.bitsOf c d))] = Go.Proofs.Ytffcpblbdfjagaa.L1.comSt a b c d (0 : Nat) ∧ Go.Proofs.Ytffcpblbdfjagaa.L1.comI a b c d (0 : Nat)) ∧ ∀ (p : Nat), Go.Proofs.Ytffcpblbdfjagaa.L1.comI a b c d p → (Decidable.decide ((↑p : Int) < (128 : Int)) = Bool.true → ((0 : Int) ≤ (↑p : Int) ∧ (↑p : Int) < (↑(128 : Nat) : Int)) ∧ Go.Sx.Blk.read Go.Proofs.Try.prog (Go.Sx.Blk.mk Bool.true (4 : Go.TypeId) (1 : Nat) Bool.true (Go.Proofs.Ytffcpblbdfjagaa.L1.bitsOf a b)) (4 : Nat) ((0 : Nat) + Int.toNat (↑p : Int)) (0 : Nat) = Option.some (Go.Sx.AV.bool (Go.Sx.M.bitAt a b p)) ∧ ((0 : Int) ≤ (↑p : Int) ∧ (↑p : Int) < (↑(128 : Nat) : Int)) ∧ Go.Sx.Blk.read Go.Proofs.Try.prog (Go.Sx.Blk.mk Bool.true (4 : Go.TypeId) (1 : Nat) Bool.true (Go.Proofs.Ytffcpblbdfjagaa.L1.bitsOf c d)) (4 : Nat) ((0 : Nat) + Int.toNat (↑p : Int)) (0 : Nat) = Option.some (Go.Sx.AV.bool (Go.Sx.M.bitAt c d p)) ∧ ((Go.Sx.M.bitAt a b p == Go.Sx.M.bitAt c d p) = Bool.true → Go.Sx.inRange Go.IntKind.i64 ((↑p : Int) + (1 : Int)) ∧ ∃ (p' : Nat), Go.Sx.St.mk [Go.Sx.AV.any, Go.Sx.AV.any, Go.Sx.AV.any, Go.Sx.AV.any, Go.Sx.AV.any, Go.Sx.AV.slice ((0 : Nat) + (1 : Nat) + (1 : Nat)) (0 : Nat) (128 : Nat) Bool.false, Go.Sx.AV.slice ((0 : Nat) + (1 : Nat) + (1 : Nat) + (1 : Nat)) (0 : Nat) (128 : Nat) Bool.false, Go.Sx.AV.int Go.IntKind.i64 ((↑p : Int) + (1 : Int)), Go.Sx.AV.any, Go.Sx.AV.any, Go.Sx.AV.any, Go.Sx.AV.any, Go.Sx.AV.any, Go.Sx.AV.any, Go.Sx.AV.any, Go.Sx.AV.any, Go.Sx.AV.any, Go.Sx.AV.any, Go.Sx.AV.any, Go.Sx.AV.any, Go.Sx.AV.any, Go.Sx.AV.any, Go.Sx.AV.any, Go.Sx.AV.any, Go.Sx.AV.any, Go.Sx.AV.any, Go.Sx.AV.any, Go.Sx.AV.any] [Option.none, Option.none, Option.some (Go.Sx.Blk.mk Bool.true (4 : Go.TypeId) (1 : Nat) Bool.true (Go.Proofs.Ytffcpblbdfjagaa.L1.bitsOf a b)), Option.some (Go.Sx.Blk.mk Bool.true (4 : Go.TypeId) (1 : Nat) Bool.true (Go.Proofs.Ytffcpblbdfjagaa.L1.bitsOf c d))] = Go.Proofs.Ytffcpblbdfjagaa.L1.comSt a b c d p' ∧ Go.Proofs.Ytffcpblbdfjagaa.L1.comI a b c d p' ∧ (200 : Nat) - p' < (200 : Nat) - p) ∧ ((Go.Sx.M.bitAt a b p == Go.Sx.M.bitAt c d p) = Bool.false → Go.Sx.AV.int Go.IntKind.i64 (↑p : Int) = r)) ∧ (Decidable.decide ((↑p : Int) < (128 : Int)) = Bool.false → Go.Sx.AV.int Go.IntKind.i64 (↑p : Int) = r)) := by kernel_rfl

def comF : List Arg → (Res → Prop) → Prop
  | [.v (.agg [.w64 a, .w64 b]), .v (.agg [.w64 c, .w64 d])], R => R (.v (.int .i64 (com (bitAt a b) (bitAt c d) : Nat)))
  | _, _ => False

noncomputable def cmpCs : List (FuncId × Sx.Spec) := [(55, genSpec [none] bitsF), (68, genSpec [none, none] comF)]

theorem cmp_run (a b c d : BitVec 64) (r : AV) : run cmpCs Try.prog 59 [.agg [.w64 a, .w64 b], .agg [.w64 c, .w64 d]] [] [.fork [] [.dy, .cell (.bool (bitAt c d (com (bitAt a b) (bitAt c d)))), .fork [] []]] (yields (.v r)) =
    ((((↑(Go.Sx.M.com (Go.Sx.M.bitAt a b) (Go.Sx.M.bitAt c d)) : Int) == (128 : Int)) = Bool.true → Go.Sx.AV.int Go.IntKind.i64 (0 : Int) = r) ∧ (((↑(Go.Sx.M.com (Go.Sx.M.bitAt a b) (Go.Sx.M.bitAt c d)) : Int) == (128 : Int)) = Bool.false → ((0 : Int) ≤ (↑(Go.Sx.M.com (Go.Sx.M.bitAt a b) (Go.Sx.M.bitAt c d)) : Int) ∧ (↑(Go.Sx.M.com (Go.Sx.M.bitAt a b) (Go.Sx.M.bitAt c d)) : Int) < (↑(List.length (Go.Proofs.Ytffcpblbdfjagaa.L1.bitsOf c d)) : Int)) ∧ Go.Sx.Blk.read Go.Proofs.Try.prog (Go.Sx.Blk.mk Bool.true (4 : Go.TypeId) (1 : Nat) Bool.true (Go.Proofs.Ytffcpblbdfjagaa.L1.bitsOf c d)) (4 : Nat) ((0 : Nat) + Int.toNat (↑(Go.Sx.M.com (Go.Sx.M.bitAt a b) (Go.Sx.M.bitAt c d)) : Int)) (0 : Nat) = Option.some (Go.Sx.AV.bool (Go.Sx.M.bitAt c d (Go.Sx.M.com (Go.Sx.M.bitAt a b) (Go.Sx.M.bitAt c d)))) ∧ (Go.Sx.M.bitAt c d (Go.Sx.M.com (Go.Sx.M.bitAt a b) (Go.Sx.M.bitAt c d)) = Bool.true → Go.Sx.AV.int Go.IntKind.i64 (-1 : Int) = r) ∧ (Go.Sx.M.bitAt c d (Go.Sx.M.com (Go.Sx.M.bitAt a b) (Go.Sx.M.bitAt c d)) = Bool.false → Go.Sx.AV.int Go.IntKind.i64 (1 : Int) = r))) := by kernel_rfl

theorem acmp_run (a b c d : BitVec 64) (r : AV) : run [] Try.prog 57 [.agg [.w64 a, .w64 b], .agg [.w64 c, .w64 d]] [] [.fork [.br false, .br false, .fork [] [.fork [] []]] [.br false, .br false, .fork [] [.fork [] []]]] (yields (.v r)) =
    (((a != c) = Bool.true → (a != a) = Bool.false ∧ (c != c) = Bool.false ∧ (Decidable.decide (a < c) = Bool.true → Go.Sx.AV.int Go.IntKind.i64 (-1 : Int) = r) ∧ (Decidable.decide (a < c) = Bool.false → (Decidable.decide (c < a) = Bool.true → Go.Sx.AV.int Go.IntKind.i64 (1 : Int) = r) ∧ (Decidable.decide (c < a) = Bool.false → Go.Sx.AV.int Go.IntKind.i64 (0 : Int) = r))) ∧ ((a != c) = Bool.false → (b != b) = Bool.false ∧ (d != d) = Bool.false ∧ (Decidable.decide (b < d) = Bool.true → Go.Sx.AV.int Go.IntKind.i64 (-1 : Int) = r) ∧ (Decidable.decide (b < d) = Bool.false → (Decidable.decide (d < b) = Bool.true → Go.Sx.AV.int Go.IntKind.i64 (1 : Int) = r) ∧ (Decidable.decide (d < b) = Bool.false → Go.Sx.AV.int Go.IntKind.i64 (0 : Int) = r)))) := by kernel_rfl

theorem comCs_ok : ∀ e ∈ comCs, SpecOK Try.prog e.1 e.2 := by
  intro e he
  simp only [comCs, List.mem_cons, List.not_mem_nil, or_false] at he
  rcases he with rfl
  exact bits_ok

theorem com_ok : SpecOK Try.prog 68 (genSpec [none, none] comF) := by
  refine genSpec_ok (run_ok (l := comCs) comCs_ok mixed noNG) fun l R hF => ?_
  unfold comF at hF
  split at hF
  · rename_i a b c d
    refine ⟨_, hF, rfl, comH a b c d, ?_⟩
    show run comCs Try.prog _ [.agg [.w64 a, .w64 b], .agg [.w64 c, .w64 d]] [] _ _
    rw [com_run]
    refine ⟨⟨rfl, by decide, fun i hi => absurd hi (by omega)⟩, ?_⟩
    rintro p ⟨h1, h2⟩
    refine ⟨fun hlt => ?_, fun hge => ?_⟩
    · have hp : p < 128 := by simp only [decide_eq_true_eq] at hlt; omega
      refine ⟨by omega, read_bits (by omega) (by omega) rfl, by omega, read_bits (by omega) (by omega) rfl, fun he => ?_, fun he => ?_⟩
      · refine ⟨inR (by omega) (by omega), p + 1, rfl, ⟨by omega, fun i hi => ?_⟩, by omega⟩
        rcases Nat.lt_or_eq_of_le (Nat.le_of_lt_succ hi) with h | rfl
        · exact h2 i h
        · simpa using he
      · have : p = com (bitAt a b) (bitAt c d) := IsCom.uniq (f := bitAt a b) (g := bitAt c d) ⟨h1, h2, fun _ => by simpa using he⟩ (com_spec _ _)
        rw [this]
    · have hp : p = 128 := by simp only [decide_eq_false_iff_not] at hge; omega
      have : p = com (bitAt a b) (bitAt c d) := IsCom.uniq (f := bitAt a b) (g := bitAt c d) ⟨h1, h2, fun h => by omega⟩ (com_spec _ _)
      rw [this]
  · exact hF.elim

theorem lz_spec (x : BitVec 64) : lenN x.toNat ≤ 64 ∧ (∀ i, i < 64 - lenN x.toNat → x.getMsbD i = false) ∧ (64 - lenN x.toNat < 64 → x.getMsbD (64 - lenN x.toNat) = true) := by
  have hle := lenN_le x.isLt
  have hm : ∀ i, i < 64 → x.getMsbD i = x.toNat.testBit (63 - i) := fun i hi => by
    rw [BitVec.getMsbD, show decide (i < 64) = true from by simpa using hi, Bool.true_and]; rfl
  refine ⟨hle, fun i hi => ?_, fun hlt => ?_⟩
  · rw [hm i (by omega)]
    unfold lenN at hi
    split at hi
    · rename_i h0; rw [h0]; simp
    · rename_i h0
      have := (Nat.log2_eq_iff h0).1 rfl
      exact Nat.testBit_lt_two_pow (Nat.lt_of_lt_of_le this.2 (Nat.pow_le_pow_right (by omega) (by omega)))
  · rw [hm _ (by omega)]
    unfold lenN at hlt hle ⊢
    split at hlt
    · omega
    · rename_i h0
      rw [if_neg h0] at hle ⊢
      have h := (Nat.log2_eq_iff h0).1 rfl
      generalize x.toNat.log2 = k at *
      rw [show 63 - (64 - (k + 1)) = k from by omega, Nat.testBit_eq_decide_div_mod_eq, decide_eq_true_eq]
      have h1 : x.toNat / 2 ^ k = 1 := by
        rw [Nat.pow_succ] at h
        have := Nat.two_pow_pos k
        exact (Nat.div_eq_iff this).2 ⟨by omega, by omega⟩
      rw [h1]

theorem xor_msb {a c : BitVec 64} {i : Nat} : ((a ^^^ c).getMsbD i = false → a.getMsbD i = c.getMsbD i) ∧ ((a ^^^ c).getMsbD i = true → a.getMsbD i ≠ c.getMsbD i) := by
  rw [BitVec.getMsbD_xor]
  cases a.getMsbD i <;> cases c.getMsbD i <;> simp

theorem lead_lo {a b c d : BitVec 64} (h : (a ^^^ c).toNat ≠ 0) : 64 - lenN (a ^^^ c).toNat = com (bitAt a b) (bitAt c d) := by
  obtain ⟨h0, h1, h2⟩ := lz_spec (a ^^^ c)
  have hp : lenN (a ^^^ c).toNat ≠ 0 := by unfold lenN; rw [if_neg h]; omega
  refine IsCom.uniq (f := bitAt a b) (g := bitAt c d) ⟨by omega, fun i hi => ?_, fun _ => ?_⟩ (com_spec _ _)
  · unfold bitAt
    rw [if_pos (by omega), if_pos (by omega)]
    exact xor_msb.1 (h1 i hi)
  · unfold bitAt
    rw [if_pos (by omega), if_pos (by omega)]
    exact xor_msb.2 (h2 (by omega))

theorem lead_hi {a b d : BitVec 64} : 64 + (64 - lenN (b ^^^ d).toNat) = com (bitAt a b) (bitAt a d) := by
  obtain ⟨h0, h1, h2⟩ := lz_spec (b ^^^ d)
  refine IsCom.uniq (f := bitAt a b) (g := bitAt a d) ⟨by omega, fun i hi => ?_, fun hlt => ?_⟩ (com_spec _ _)
  · unfold bitAt
    split
    · rfl
    · exact xor_msb.1 (h1 _ (by omega))
  · unfold bitAt
    rw [if_neg (by omega), if_neg (by omega), Nat.add_sub_cancel_left]
    exact xor_msb.2 (h2 (by omega))

def cmpF : List Arg → (Res → Prop) → Prop
  | [.v (.agg [.w64 a, .w64 b]), .v (.agg [.w64 c, .w64 d])], R => R (.v (.int .i64 (cmpV (V a b) (V c d))))
  | _, _ => False

theorem cmpCs_ok : ∀ e ∈ cmpCs, SpecOK Try.prog e.1 e.2 := by
  intro e he
  simp only [cmpCs, List.mem_cons, List.not_mem_nil, or_false] at he
  rcases he with rfl | rfl
  · exact bits_ok
  · exact com_ok

theorem cmp_ok : SpecOK Try.prog 59 (genSpec [none, none] cmpF) := by
  refine genSpec_ok (run_ok (l := cmpCs) cmpCs_ok mixed noNG) fun l R hF => ?_
  unfold cmpF at hF
  split at hF
  · rename_i a b c d
    refine ⟨_, hF, rfl, [.fork [] [.dy, .cell (.bool (bitAt c d (com (bitAt a b) (bitAt c d)))), .fork [] []]], ?_⟩
    show run cmpCs Try.prog _ [.agg [.w64 a, .w64 b], .agg [.w64 c, .w64 d]] [] _ _
    rw [cmp_run, com_cmp]
    have hle := (com_spec (bitAt a b) (bitAt c d)).le
    refine ⟨fun h => ?_, fun h => ?_⟩
    · have : com (bitAt a b) (bitAt c d) = 128 := by simp only [beq_iff_eq] at h; omega
      rw [if_pos this]
    · have hne : com (bitAt a b) (bitAt c d) ≠ 128 := by simp only [beq_eq_false_iff_ne, ne_eq] at h; omega
      rw [if_neg hne]
      refine ⟨⟨by omega, by simp only [bitsOf, List.length_map, List.length_range]; omega⟩, read_bits (by omega) (by omega) rfl, fun hb => ?_, fun hb => ?_⟩
      · rw [if_pos hb]
      · rw [if_neg (by rw [hb]; simp)]
  · exact hF.elim

theorem acmp_ok : SpecOK Try.prog 57 (genSpec [none, none] cmpF) := by
  refine genSpec_ok none_ok fun l R hF => ?_
  unfold cmpF at hF
  split at hF
  · rename_i a b c d
    refine ⟨_, hF, rfl, [.fork [.br false, .br false, .fork [] [.fork [] []]] [.br false, .br false, .fork [] [.fork [] []]]], ?_⟩
    show run [] Try.prog _ [.agg [.w64 a, .w64 b], .agg [.w64 c, .w64 d]] [] _ _
    rw [acmp_run]
    have hb := b.isLt
    have hd := d.isLt
    have self : ∀ x : BitVec 64, (x != x) = false := fun x => by simp
    refine ⟨fun h => ⟨self a, self c, fun h1 => ?_, fun h1 => ⟨fun h2 => ?_, fun h2 => ?_⟩⟩, fun h => ⟨self b, self d, fun h1 => ?_, fun h1 => ⟨fun h2 => ?_, fun h2 => ?_⟩⟩⟩
    all_goals
      simp only [bne_iff_ne, ne_eq, decide_eq_true_eq, decide_eq_false_iff_not, BitVec.lt_def, ← BitVec.toNat_inj, bne_eq_false_iff_eq] at *
      congr 1
      unfold cmpV V
    · rw [if_neg (by omega), if_pos (by omega)]
    · rw [if_neg (by omega), if_neg (by omega)]
    · omega
    · rw [if_neg (by omega), if_pos (by omega)]
    · rw [if_neg (by omega), if_neg (by omega)]
    · rw [if_pos (by omega)]
  · exact hF.elim

end Go.Proofs.Ytffcpblbdfjagaa.L1
