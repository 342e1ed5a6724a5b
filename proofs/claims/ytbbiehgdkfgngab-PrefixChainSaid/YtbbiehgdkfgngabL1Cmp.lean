/-
  Layer 1: contracts of the document's and the program's Common and Compare.
-/
import Derived.Test.YtbbiehgdkfgngabL1Com
import Derived.Test.YtbbiehgdkfgngabM04
namespace Go.Proofs.Ytbbiehgdkfgngab.L1
open Go.Sx Go.Sx.M

def comSt (a b c d : BitVec 64) (p : Nat) : St :=
  ⟨[.any, .any, .any, .any, .any, .slice 2 0 128 false, .slice 3 0 128 false, .int .i64 p, .any, .any, .any, .any, .any, .any, .any, .any, .any, .any, .any, .any, .any, .any, .any, .any, .any, .any, .any, .any],
   [none, none, some ⟨true, 4, 1, true, bitsOf a b⟩, some ⟨true, 4, 1, true, bitsOf c d⟩]⟩

def comM0 : Modes := ⟨[0, 0, 0, 0, 0, 1, 1, 2, 0, 0, 0, 0, 0, 0, 0, 0, 0, 0, 0, 0, 0, 0, 0, 0, 0, 0, 0, 0], [0, 1, 2, 3], [0, 0, 1, 1], [], []⟩
def comM : Modes := ⟨[0, 0, 0, 0, 0, 1, 1, 1, 0, 0, 0, 0, 0, 0, 0, 0, 0, 0, 0, 0, 0, 0, 0, 0, 0, 0, 0, 0], [0, 1, 2, 3], [0, 0, 1, 1], [], []⟩

def comI (a b c d : BitVec 64) (p : Nat) : Prop := p ≤ 128 ∧ ∀ i, i < p → bitAt a b i = bitAt c d i

def comH (a b c d : BitVec 64) : List Hint := [.linv _ 0 (comSt a b c d) (comI a b c d) (fun p => 200 - p) comM0 comM comM (fun _ => []) fun p =>
  [.fork [.dy, .cell (.bool (bitAt a b p)), .dy, .cell (.bool (bitAt c d p)), .fork [.nw] []] [.br false]]]

noncomputable def acomCs : List (FuncId × Sx.Spec) := [(47, genSpec [none] lenF)]

theorem acom_run (a b c d : BitVec 64) (r : AV) : run acomCs Try.prog 37 [.agg [.w64 a, .w64 b], .agg [.w64 c, .w64 d]] [] [.fork [.nw] [.nw, .nw]] (yields (.v r)) =
    (((a ^^^ c != BitVec.ofInt (64 : Nat) (0 : Int)) = Bool.true → Go.Sx.inRange Go.IntKind.i64 ((64 : Int) - (↑(Go.Proofs.Ytbbiehgdkfgngab.L1.lenN (BitVec.toNat (a ^^^ c))) : Int)) ∧ Go.Sx.AV.int Go.IntKind.i64 ((64 : Int) - (↑(Go.Proofs.Ytbbiehgdkfgngab.L1.lenN (BitVec.toNat (a ^^^ c))) : Int)) = r) ∧ ((a ^^^ c != BitVec.ofInt (64 : Nat) (0 : Int)) = Bool.false → Go.Sx.inRange Go.IntKind.i64 ((64 : Int) - (↑(Go.Proofs.Ytbbiehgdkfgngab.L1.lenN (BitVec.toNat (b ^^^ d))) : Int)) ∧ Go.Sx.inRange Go.IntKind.i64 ((64 : Int) + ((64 : Int) - (↑(Go.Proofs.Ytbbiehgdkfgngab.L1.lenN (BitVec.toNat (b ^^^ d))) : Int))) ∧ Go.Sx.AV.int Go.IntKind.i64 ((64 : Int) + ((64 : Int) - (↑(Go.Proofs.Ytbbiehgdkfgngab.L1.lenN (BitVec.toNat (b ^^^ d))) : Int))) = r)) := by kernel_rfl

def comF : List Arg → (Res → Prop) → Prop
  | [.v (.agg [.w64 a, .w64 b]), .v (.agg [.w64 c, .w64 d])], R => R (.v (.int .i64 (com (bitAt a b) (bitAt c d) : Nat)))
  | _, _ => False

theorem acmp_run (a b c d : BitVec 64) (r : AV) : run [] Try.prog 15 [.agg [.w64 a, .w64 b], .agg [.w64 c, .w64 d]] [] [.fork [.br false, .br false, .fork [] [.fork [] []]] [.br false, .br false, .fork [] [.fork [] []]]] (yields (.v r)) =
    (((a != c) = Bool.true → (a != a) = Bool.false ∧ (c != c) = Bool.false ∧ (Decidable.decide (a < c) = Bool.true → Go.Sx.AV.int Go.IntKind.i64 (-1 : Int) = r) ∧ (Decidable.decide (a < c) = Bool.false → (Decidable.decide (c < a) = Bool.true → Go.Sx.AV.int Go.IntKind.i64 (1 : Int) = r) ∧ (Decidable.decide (c < a) = Bool.false → Go.Sx.AV.int Go.IntKind.i64 (0 : Int) = r))) ∧ ((a != c) = Bool.false → (b != b) = Bool.false ∧ (d != d) = Bool.false ∧ (Decidable.decide (b < d) = Bool.true → Go.Sx.AV.int Go.IntKind.i64 (-1 : Int) = r) ∧ (Decidable.decide (b < d) = Bool.false → (Decidable.decide (d < b) = Bool.true → Go.Sx.AV.int Go.IntKind.i64 (1 : Int) = r) ∧ (Decidable.decide (d < b) = Bool.false → Go.Sx.AV.int Go.IntKind.i64 (0 : Int) = r)))) := by kernel_rfl

theorem lz_spec (x : BitVec 64) : lenN x.toNat ≤ 64 ∧ (∀ i, i < 64 - lenN x.toNat → x.getMsbD i = false) ∧ (64 - lenN x.toNat < 64 → x.getMsbD (64 - lenN x.toNat) = true) := by
  have hle := lenN_le x.isLt
  have hm : ∀ i, i < 64 → x.getMsbD i = x.toNat.testBit (63 - i) := fun i hi => by
    rw [BitVec.getMsbD, show decide (i < 64) = true from by simpa using hi, Bool.true_and]; rfl
  refine ⟨hle, fun i hi => ?_, fun hlt => ?_⟩
  · rw [hm i (by omega)]
    unfold lenN at hi
    split at hi
    · rename_i h0; rw [h0]; simp
    · rename_i h0
      have := (Nat.log2_eq_iff h0).1 rfl
      exact Nat.testBit_lt_two_pow (Nat.lt_of_lt_of_le this.2 (Nat.pow_le_pow_right (by omega) (by omega)))
  · rw [hm _ (by omega)]
    unfold lenN at hlt hle ⊢
    split at hlt
    · omega
    · rename_i h0
      rw [if_neg h0] at hle ⊢
      have h := (Nat.log2_eq_iff h0).1 rfl
      generalize x.toNat.log2 = k at *
      rw [show 63 - (64 - (k + 1)) = k from by omega, Nat.testBit_eq_decide_div_mod_eq, decide_eq_true_eq]
      have h1 : x.toNat / 2 ^ k = 1 := by
        rw [Nat.pow_succ] at h
        have := Nat.two_pow_pos k
        exact (Nat.div_eq_iff this).2 ⟨by omega, by omega⟩
      rw [h1]

theorem acomCs_ok : ∀ e ∈ acomCs, SpecOK Try.prog e.1 e.2 := by
  intro e he
  simp only [acomCs, List.mem_cons, List.not_mem_nil, or_false] at he
  rcases he with rfl
  exact len_ok

theorem xor_msb {a c : BitVec 64} {i : Nat} : ((a ^^^ c).getMsbD i = false → a.getMsbD i = c.getMsbD i) ∧ ((a ^^^ c).getMsbD i = true → a.getMsbD i ≠ c.getMsbD i) := by
  rw [BitVec.getMsbD_xor]
  cases a.getMsbD i <;> cases c.getMsbD i <;> simp

theorem lead_lo {a b c d : BitVec 64} (h : (a ^^^ c).toNat ≠ 0) : 64 - lenN (a ^^^ c).toNat = com (bitAt a b) (bitAt c d) := by
  obtain ⟨h0, h1, h2⟩ := lz_spec (a ^^^ c)
  have hp : lenN (a ^^^ c).toNat ≠ 0 := by unfold lenN; rw [if_neg h]; omega
  refine IsCom.uniq (f := bitAt a b) (g := bitAt c d) ⟨by omega, fun i hi => ?_, fun _ => ?_⟩ (com_spec _ _)
  · unfold bitAt
    rw [if_pos (by omega), if_pos (by omega)]
    exact xor_msb.1 (h1 i hi)
  · unfold bitAt
    rw [if_pos (by omega), if_pos (by omega)]
    exact xor_msb.2 (h2 (by omega))

theorem lead_hi {a b d : BitVec 64} : 64 + (64 - lenN (b ^^^ d).toNat) = com (bitAt a b) (bitAt a d) := by
  obtain ⟨h0, h1, h2⟩ := lz_spec (b ^^^ d)
  refine IsCom.uniq (f := bitAt a b) (g := bitAt a d) ⟨by omega, fun i hi => ?_, fun hlt => ?_⟩ (com_spec _ _)
  · unfold bitAt
    split
    · rfl
    · exact xor_msb.1 (h1 _ (by omega))
  · unfold bitAt
    rw [if_neg (by omega), if_neg (by omega), Nat.add_sub_cancel_left]
    exact xor_msb.2 (h2 (by omega))

theorem acom_ok : SpecOK Try.prog 37 (genSpec [none, none] comF) := by
  refine genSpec_ok (run_ok (l := acomCs) acomCs_ok mixed noNG) fun l R hF => ?_
  unfold comF at hF
  split at hF
  · rename_i a b c d
    refine ⟨_, hF, rfl, [.fork [.nw] [.nw, .nw]], ?_⟩
    show run acomCs Try.prog _ [.agg [.w64 a, .w64 b], .agg [.w64 c, .w64 d]] [] _ _
    rw [acom_run]
    refine ⟨fun h => ?_, fun h => ?_⟩
    · have h0 : (a ^^^ c).toNat ≠ 0 := by
        intro e
        have : a ^^^ c = BitVec.ofInt 64 0 := BitVec.eq_of_toNat_eq (by rw [e]; rfl)
        simp [this] at h
      have hl := (lz_spec (a ^^^ c)).1
      have e := lead_lo (b := b) (d := d) h0
      exact ⟨inR (by omega) (by omega), by congr 1; omega⟩
    · have h0 : a ^^^ c = BitVec.ofInt 64 0 := by simpa using h
      have hac : a = c := by
        have := BitVec.xor_eq_zero_iff.1 (show a ^^^ c = 0#64 from h0)
        exact this
      subst hac
      have hl := (lz_spec (b ^^^ d)).1
      have e := lead_hi (a := a) (b := b) (d := d)
      exact ⟨inR (by omega) (by omega), inR (by omega) (by omega), by congr 1; omega⟩
  · exact hF.elim

def cmpF : List Arg → (Res → Prop) → Prop
  | [.v (.agg [.w64 a, .w64 b]), .v (.agg [.w64 c, .w64 d])], R => R (.v (.int .i64 (cmpV (V a b) (V c d))))
  | _, _ => False

theorem acmp_ok : SpecOK Try.prog 15 (genSpec [none, none] cmpF) := by
  refine genSpec_ok none_ok fun l R hF => ?_
  unfold cmpF at hF
  split at hF
  · rename_i a b c d
    refine ⟨_, hF, rfl, [.fork [.br false, .br false, .fork [] [.fork [] []]] [.br false, .br false, .fork [] [.fork [] []]]], ?_⟩
    show run [] Try.prog _ [.agg [.w64 a, .w64 b], .agg [.w64 c, .w64 d]] [] _ _
    rw [acmp_run]
    have hb := b.isLt
    have hd := d.isLt
    have self : ∀ x : BitVec 64, (x != x) = false := fun x => by simp
    refine ⟨fun h => ⟨self a, self c, fun h1 => ?_, fun h1 => ⟨fun h2 => ?_, fun h2 => ?_⟩⟩, fun h => ⟨self b, self d, fun h1 => ?_, fun h1 => ⟨fun h2 => ?_, fun h2 => ?_⟩⟩⟩
    all_goals
      simp only [bne_iff_ne, ne_eq, decide_eq_true_eq, decide_eq_false_iff_not, BitVec.lt_def, ← BitVec.toNat_inj, bne_eq_false_iff_eq] at *
      congr 1
      unfold cmpV V
    · rw [if_neg (by omega), if_pos (by omega)]
    · rw [if_neg (by omega), if_neg (by omega)]
    · omega
    · rw [if_neg (by omega), if_pos (by omega)]
    · rw [if_neg (by omega), if_neg (by omega)]
    · rw [if_pos (by omega)]
  · exact hF.elim

end Go.Proofs.Ytbbiehgdkfgngab.L1
