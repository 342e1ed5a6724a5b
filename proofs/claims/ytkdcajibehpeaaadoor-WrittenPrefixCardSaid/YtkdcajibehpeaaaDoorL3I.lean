/-
  Layer 3: the document's Prefix; the calls of WrittenAddr and WrittenPrefix.
-/
import Derived.Test.YtkdcajibehpeaaaDoorL3H
namespace Go.Proofs.YtkdcajibehpeaaaDoor.L1
open Go.Sx Go.Sx.M Go.RowKit

/-- The document's text of an address of a family. -/
def textR (w : Int) (a b : BitVec 64) : List UInt8 := if w = 32 then text4 a b else text6 a b

def raddrG : List Arg → (Res → Prop) → Prop
  | [.v (.int .i64 w), .v (.agg [.w64 a, .w64 b])], R => (w = 32 ∨ w = 128) ∧ R (.v (.val (.string (tx (textR w a b)))))
  | _, _ => False

theorem raddrg_ok : SpecOK Tryd.prog 14 (genSpec [none, none] raddrG) := raddr_ok

def rprefF : List Arg → (Res → Prop) → Prop
  | [.v (.int .i64 w), .v (.agg [.w64 a, .w64 b, .int .i64 n])], R => (w = 32 ∨ w = 128) ∧ 0 ≤ n ∧ n ≤ 128 ∧ R (.v (.val (.string (tx (textR w a b ++ [47] ++ Lib.decDigits n.toNat)))))
  | _, _ => False

noncomputable def rprefCs : List (FuncId × Sx.Spec) := [(14, genSpec [none, none] raddrG), (32, genSpec [none] (digF 1000000000001))]

noncomputable def waCs : List (FuncId × Sx.Spec) := [(12, genSpec [] awF), (10, genSpec [none, none] addrF), (11, genSpec [none, none] paF),
  (13, genSpec [none, none] rightF), (14, genSpec [none, none] raddrG)]

noncomputable def wpCs : List (FuncId × Sx.Spec) := [(12, genSpec [] awF), (15, genSpec [none, none] prefF), (17, genSpec [none, none] ppF),
  (13, genSpec [none, none] rightF), (18, genSpec [none, none] rprefF)]

def waT : List Hint := [.br true, .br true, .br true]
def waH : List Hint := [.fork [.fork waT [.fork waT waT]] [.fork waT waT]]
def wpH : List Hint := [.fork [.br true] waT]

theorem rpref_run (w : Int) (a b : BitVec 64) (n : Int) (r : AV) : run rprefCs Tryd.prog 18 [.int .i64 w, .agg [.w64 a, .w64 b, .int .i64 n]] [] [] (yields (.v r)) =
    ((w = (32 : Int) ∨ w = (128 : Int)) ∧ ByteArray.size (Go.Sx.M.tx (Go.Proofs.YtkdcajibehpeaaaDoor.L1.textR w a b)) + ByteArray.size (Go.Sx.bstr [(47 : Nat)]) ≤ (9223372036854775807 : Nat) ∧ (0 : Int) ≤ n ∧ n < (↑(1000000000001 : Nat) : Int) ∧ n ≤ (1000000000000 : Int) ∧ ByteArray.size (Go.Sx.M.tx (Go.Proofs.YtkdcajibehpeaaaDoor.L1.textR w a b) ++ Go.Sx.bstr [(47 : Nat)]) + ByteArray.size (Go.Sx.M.tx (Go.Lib.decDigits (Int.toNat n))) ≤ (9223372036854775807 : Nat) ∧ Go.Sx.AV.val (Go.Value.string (Go.Sx.M.tx (Go.Proofs.YtkdcajibehpeaaaDoor.L1.textR w a b) ++ Go.Sx.bstr [(47 : Nat)] ++ Go.Sx.M.tx (Go.Lib.decDigits (Int.toNat n)))) = r) := by kernel_rfl

theorem wa_run (w : Int) (a b : BitVec 64) : run waCs Tryd.prog 3 [.int .i64 w, .agg [.w64 a, .w64 b]] [] waH isTrue =
    (ByteArray.size (Go.Sx.M.tx (Go.Proofs.YtkdcajibehpeaaaDoor.L1.textA w a b)) ≤ (1000000 : Nat) ∧ ((w != (32 : Int)) = Bool.true → ((w != (128 : Int)) = Bool.true → (Go.Sx.M.tx (Go.Proofs.YtkdcajibehpeaaaDoor.L1.textA w a b) == Go.Sx.bstr []) = Bool.true ∧ (Go.Sx.M.paX w (Array.toList (ByteArray.data (Go.Sx.M.tx (Go.Proofs.YtkdcajibehpeaaaDoor.L1.textA w a b)))) == BitVec.ofInt (64 : Nat) (0 : Int) && Go.Sx.M.paY w (Array.toList (ByteArray.data (Go.Sx.M.tx (Go.Proofs.YtkdcajibehpeaaaDoor.L1.textA w a b)))) == BitVec.ofInt (64 : Nat) (0 : Int)) = Bool.true ∧ (Go.Sx.M.paE w (Array.toList (ByteArray.data (Go.Sx.M.tx (Go.Proofs.YtkdcajibehpeaaaDoor.L1.textA w a b)))) == (1 : Int)) = Bool.true ∧ Bool.true = Bool.true) ∧ ((w != (128 : Int)) = Bool.false → ((!Go.Proofs.YtkdcajibehpeaaaDoor.L1.rightB w a b w) = Bool.true → (Go.Sx.M.tx (Go.Proofs.YtkdcajibehpeaaaDoor.L1.textA w a b) == Go.Sx.bstr []) = Bool.true ∧ (Go.Sx.M.paX w (Array.toList (ByteArray.data (Go.Sx.M.tx (Go.Proofs.YtkdcajibehpeaaaDoor.L1.textA w a b)))) == BitVec.ofInt (64 : Nat) (0 : Int) && Go.Sx.M.paY w (Array.toList (ByteArray.data (Go.Sx.M.tx (Go.Proofs.YtkdcajibehpeaaaDoor.L1.textA w a b)))) == BitVec.ofInt (64 : Nat) (0 : Int)) = Bool.true ∧ (Go.Sx.M.paE w (Array.toList (ByteArray.data (Go.Sx.M.tx (Go.Proofs.YtkdcajibehpeaaaDoor.L1.textA w a b)))) == (4 : Int)) = Bool.true ∧ Bool.true = Bool.true) ∧ ((!Go.Proofs.YtkdcajibehpeaaaDoor.L1.rightB w a b w) = Bool.false → (w = (32 : Int) ∨ w = (128 : Int)) ∧ (Go.Sx.M.tx (Go.Proofs.YtkdcajibehpeaaaDoor.L1.textA w a b) == Go.Sx.M.tx (Go.Proofs.YtkdcajibehpeaaaDoor.L1.textR w a b)) = Bool.true ∧ (Go.Sx.M.paX w (Array.toList (ByteArray.data (Go.Sx.M.tx (Go.Proofs.YtkdcajibehpeaaaDoor.L1.textA w a b)))) == a && Go.Sx.M.paY w (Array.toList (ByteArray.data (Go.Sx.M.tx (Go.Proofs.YtkdcajibehpeaaaDoor.L1.textA w a b)))) == b) = Bool.true ∧ (Go.Sx.M.paE w (Array.toList (ByteArray.data (Go.Sx.M.tx (Go.Proofs.YtkdcajibehpeaaaDoor.L1.textA w a b)))) == (0 : Int)) = Bool.true ∧ Bool.true = Bool.true))) ∧ ((w != (32 : Int)) = Bool.false → ((!Go.Proofs.YtkdcajibehpeaaaDoor.L1.rightB w a b w) = Bool.true → (Go.Sx.M.tx (Go.Proofs.YtkdcajibehpeaaaDoor.L1.textA w a b) == Go.Sx.bstr []) = Bool.true ∧ (Go.Sx.M.paX w (Array.toList (ByteArray.data (Go.Sx.M.tx (Go.Proofs.YtkdcajibehpeaaaDoor.L1.textA w a b)))) == BitVec.ofInt (64 : Nat) (0 : Int) && Go.Sx.M.paY w (Array.toList (ByteArray.data (Go.Sx.M.tx (Go.Proofs.YtkdcajibehpeaaaDoor.L1.textA w a b)))) == BitVec.ofInt (64 : Nat) (0 : Int)) = Bool.true ∧ (Go.Sx.M.paE w (Array.toList (ByteArray.data (Go.Sx.M.tx (Go.Proofs.YtkdcajibehpeaaaDoor.L1.textA w a b)))) == (4 : Int)) = Bool.true ∧ Bool.true = Bool.true) ∧ ((!Go.Proofs.YtkdcajibehpeaaaDoor.L1.rightB w a b w) = Bool.false → (w = (32 : Int) ∨ w = (128 : Int)) ∧ (Go.Sx.M.tx (Go.Proofs.YtkdcajibehpeaaaDoor.L1.textA w a b) == Go.Sx.M.tx (Go.Proofs.YtkdcajibehpeaaaDoor.L1.textR w a b)) = Bool.true ∧ (Go.Sx.M.paX w (Array.toList (ByteArray.data (Go.Sx.M.tx (Go.Proofs.YtkdcajibehpeaaaDoor.L1.textA w a b)))) == a && Go.Sx.M.paY w (Array.toList (ByteArray.data (Go.Sx.M.tx (Go.Proofs.YtkdcajibehpeaaaDoor.L1.textA w a b)))) == b) = Bool.true ∧ (Go.Sx.M.paE w (Array.toList (ByteArray.data (Go.Sx.M.tx (Go.Proofs.YtkdcajibehpeaaaDoor.L1.textA w a b)))) == (0 : Int)) = Bool.true ∧ Bool.true = Bool.true))) := by kernel_rfl

theorem wp_run (w : Int) (a b : BitVec 64) (n : Int) : run wpCs Tryd.prog 4 [.int .i64 w, .agg [.w64 a, .w64 b, .int .i64 n]] [] wpH isTrue =
    (((!Go.Proofs.YtkdcajibehpeaaaDoor.L1.rightB w a b n) = Bool.true → (Go.Sx.M.tx (Go.Proofs.YtkdcajibehpeaaaDoor.L1.textP w a b n) == Go.Sx.bstr []) = Bool.true ∧ Bool.true = Bool.true) ∧ ((!Go.Proofs.YtkdcajibehpeaaaDoor.L1.rightB w a b n) = Bool.false → ByteArray.size (Go.Sx.M.tx (Go.Proofs.YtkdcajibehpeaaaDoor.L1.textP w a b n)) ≤ (1000000 : Nat) ∧ (w = (32 : Int) ∨ w = (128 : Int)) ∧ (0 : Int) ≤ n ∧ n ≤ (128 : Int) ∧ (Go.Sx.M.tx (Go.Proofs.YtkdcajibehpeaaaDoor.L1.textP w a b n) == Go.Sx.M.tx (Go.Proofs.YtkdcajibehpeaaaDoor.L1.textR w a b ++ [(47 : UInt8)] ++ Go.Lib.decDigits (Int.toNat n))) = Bool.true ∧ (Go.Proofs.YtkdcajibehpeaaaDoor.L1.ppX w (Array.toList (ByteArray.data (Go.Sx.M.tx (Go.Proofs.YtkdcajibehpeaaaDoor.L1.textP w a b n)))) == a && Go.Proofs.YtkdcajibehpeaaaDoor.L1.ppY w (Array.toList (ByteArray.data (Go.Sx.M.tx (Go.Proofs.YtkdcajibehpeaaaDoor.L1.textP w a b n)))) == b && Go.Proofs.YtkdcajibehpeaaaDoor.L1.ppN w (Array.toList (ByteArray.data (Go.Sx.M.tx (Go.Proofs.YtkdcajibehpeaaaDoor.L1.textP w a b n)))) == n) = Bool.true ∧ (Go.Proofs.YtkdcajibehpeaaaDoor.L1.ppE w (Array.toList (ByteArray.data (Go.Sx.M.tx (Go.Proofs.YtkdcajibehpeaaaDoor.L1.textP w a b n)))) == (0 : Int)) = Bool.true ∧ Bool.true = Bool.true)) := by kernel_rfl

theorem rprefCs_ok : ∀ e ∈ rprefCs, SpecOK Tryd.prog e.1 e.2 := by
  intro e he
  simp only [rprefCs, List.mem_cons, List.not_mem_nil, or_false] at he
  rcases he with rfl | rfl
  · exact raddrg_ok
  · exact dig_ok _

theorem textR_len (w : Int) (a b : BitVec 64) : (textR w a b).length ≤ 40 := by
  unfold textR
  split
  · exact Nat.le_trans (T4_len a b 4) (by omega)
  · exact Nat.le_trans (T6_len a b 8) (by omega)

theorem rpref_ok : SpecOK Tryd.prog 18 (genSpec [none, none] rprefF) := by
  refine genSpec_ok (run_ok (l := rprefCs) rprefCs_ok mixed noNG) fun args R hF => ?_
  unfold rprefF at hF
  split at hF
  · rename_i w a b n
    obtain ⟨hw, h0, h1, hR⟩ := hF
    refine ⟨_, hR, rfl, [], ?_⟩
    show run rprefCs Tryd.prog _ [.int .i64 w, .agg [.w64 a, .w64 b, .int .i64 n]] [] _ _
    rw [rpref_run]
    have h2 := textR_len w a b
    have h3 := dec_le _ n.toNat (Nat.le_refl _)
    have b1 : bstr [47] = tx [47] := rfl
    rw [b1, tx_append, tx_append, tx_size, tx_size, tx_size, tx_size]
    exact ⟨hw, by simp; omega, h0, by omega, by omega, by simp; omega, rfl⟩
  · exact hF.elim

theorem waCs_ok : ∀ e ∈ waCs, SpecOK Tryd.prog e.1 e.2 := by
  intro e he
  simp only [waCs, List.mem_cons, List.not_mem_nil, or_false] at he
  rcases he with rfl | rfl | rfl | rfl | rfl
  · exact aw_ok
  · exact addr_ok
  · exact pa_ok
  · exact rright_ok
  · exact raddrg_ok

theorem wpCs_ok : ∀ e ∈ wpCs, SpecOK Tryd.prog e.1 e.2 := by
  intro e he
  simp only [wpCs, List.mem_cons, List.not_mem_nil, or_false] at he
  rcases he with rfl | rfl | rfl | rfl | rfl
  · exact aw_ok
  · exact pref_ok
  · exact pp_ok
  · exact rright_ok
  · exact rpref_ok

theorem parse_nil (w : Int) : parseA w [] = none := by
  unfold parseA
  split
  · exact pgo_bad fun h => by have := h.1; simp [cutL, r4B, numOK] at this
  · split
    · exact pgo_bad fun h => by have := h.1; simp [cutL, r6B] at this
    · rfl

theorem right_self {w : Int} {a b : BitVec 64} (hw : w = 32 ∨ w = 128) : rightB w a b w = ofB w a b := by
  unfold rightB ofB
  rw [show decide (0 ≤ w) = true from decide_eq_true (by omega), show decide (w ≤ w) = true from decide_eq_true (Int.le_refl _), Bool.true_and, Bool.true_and]

theorem wa_walk (w : Int) (a b : BitVec 64) : ∃ hs, run waCs Tryd.prog 3 [.int .i64 w, .agg [.w64 a, .w64 b]] [] hs isTrue := by
  refine ⟨waH, ?_⟩
  rw [wa_run]
  simp only [tx_data, tx_size, tx_beq, nil_bstr]
  have hl := textA_len w a b
  have z : BitVec.ofInt 64 0 = 0#64 := rfl
  have none_of : ofB w a b = false → textA w a b = [] := fun h => by unfold textA; rw [if_neg (by simp [h])]
  have no : (w = 32 ∨ w = 128) → (!rightB w a b w) = true → decide (textA w a b = []) = true ∧ (paX w (textA w a b) == BitVec.ofInt 64 0 && paY w (textA w a b) == BitVec.ofInt 64 0) = true ∧ (paE w (textA w a b) == 4) = true ∧ True := by
    intro hw h
    rw [right_self hw] at h
    have ht := none_of (by simpa using h)
    rw [ht]
    have hp := parse_nil w
    unfold paX paY paE
    rw [hp, if_pos hw]
    exact ⟨by simp, by simp, by simp, trivial⟩
  have yes : (w = 32 ∨ w = 128) → (!rightB w a b w) = false → (w = 32 ∨ w = 128) ∧ decide (textA w a b = textR w a b) = true ∧ (paX w (textA w a b) == a && paY w (textA w a b) == b) = true ∧ (paE w (textA w a b) == 0) = true ∧ True := by
    intro hw h
    rw [right_self hw] at h
    have ho : ofB w a b = true := by simpa using h
    obtain ⟨e1, e2, e3⟩ := pa_of (parse_text ho)
    refine ⟨hw, decide_eq_true ?_, ?_, ?_, trivial⟩
    · unfold textA textR; rw [if_pos ho]
    · rw [e2, e3]; simp
    · rw [e1]; rfl
  refine ⟨by omega, fun h1 => ⟨fun h2 => ?_, fun h2 => ?_⟩, fun h1 => ?_⟩
  · have h1 : w ≠ 32 := by simpa using h1
    have h2 : w ≠ 128 := by simpa using h2
    have ho : ofB w a b = false := by
      cases h : ofB w a b with
      | false => rfl
      | true => have := (of_iff.1 h).1; omega
    rw [none_of ho]
    have hp := parse_nil w
    unfold paX paY paE
    rw [hp, if_neg (by omega)]
    exact ⟨by simp, by simp, by simp, trivial⟩
  · have hw : w = 32 ∨ w = 128 := .inr (by simpa using h2)
    exact ⟨no hw, yes hw⟩
  · have hw : w = 32 ∨ w = 128 := .inl (by simpa using h1)
    exact ⟨no hw, yes hw⟩

theorem wp_walk (w : Int) (a b : BitVec 64) (n : Int) : ∃ hs, run wpCs Tryd.prog 4 [.int .i64 w, .agg [.w64 a, .w64 b, .int .i64 n]] [] hs isTrue := by
  refine ⟨wpH, ?_⟩
  rw [wp_run]
  simp only [tx_data, tx_size, tx_beq, nil_bstr]
  refine ⟨fun h => ⟨decide_eq_true ?_, trivial⟩, fun h => ?_⟩
  · unfold textP
    rw [if_neg (by simpa using h)]
  · have hr : rightB w a b n = true := by simpa using h
    obtain ⟨h1, h2, h3, _⟩ := right_iff hr
    obtain ⟨e1, e2, e3, e4⟩ := prefix_parse hr
    have h4 := textA_len w a b
    have h5 := dec_len (n := n.toNat) (by omega)
    have ht : textP w a b n = textA w a b ++ [47] ++ Lib.decDigits n.toNat := by unfold textP; rw [if_pos hr]
    refine ⟨?_, h1, h2, by omega, decide_eq_true ?_, ?_, ?_, trivial⟩
    · rw [ht]; simp; omega
    · rw [ht]; unfold textA textR; rw [if_pos (right_of hr)]
    · rw [e2, e3, e4]; simp
    · rw [e1]; rfl

theorem wa_any : ∃ C : Sx.Call, COK Tryd.prog false C ∧ ∀ (w : Int) (a b : BitVec 64), ∃ hs, C 3 [.int .i64 w, .agg [.w64 a, .w64 b]] [] hs isTrue :=
  ⟨run waCs Tryd.prog, run_ok (l := waCs) waCs_ok mixed noNG, wa_walk⟩

theorem wp_any : ∃ C : Sx.Call, COK Tryd.prog false C ∧ ∀ (w : Int) (a b : BitVec 64) (n : Int), ∃ hs, C 4 [.int .i64 w, .agg [.w64 a, .w64 b, .int .i64 n]] [] hs isTrue :=
  ⟨run wpCs Tryd.prog, run_ok (l := wpCs) wpCs_ok mixed noNG, wp_walk⟩

end Go.Proofs.YtkdcajibehpeaaaDoor.L1
