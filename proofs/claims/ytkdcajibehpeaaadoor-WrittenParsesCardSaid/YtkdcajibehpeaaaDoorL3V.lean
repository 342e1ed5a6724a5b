/-
  Layer 3: contracts of the library's Cut, of the program's value and Number.
-/
import Derived.Test.YtkdcajibehpeaaaDoorL3S
import Derived.Test.YtkdcajibehpeaaaDoorM06
namespace Go.Proofs.YtkdcajibehpeaaaDoor.L1
open Go.Sx Go.Sx.M Go.RowKit

def cutlF : List Arg → (Res → Prop) → Prop
  | [.v (.val (.string s)), .v (.val (.string sep))], R => ∃ c : UInt8, sep = tx [c] ∧ s.size ≤ 1000000 ∧
      R (.v (.tuple [.val (.string (tx (cutL c s.data.toList).1)), .val (.string (tx (cutL c s.data.toList).2.1)), .bool (cutL c s.data.toList).2.2]))
  | _, _ => False

noncomputable def idxCs : List (FuncId × Sx.Spec) := [(62, genSpec [none, none] idxF)]

def cutlH (c : UInt8) : List Hint := [.br false, .fork [.nw, .dy] [.br true, .cell (.int .u8 (c.toNat : Nat)), .fork [.dy, .nw, .dy] []]]

def valueF : List Arg → (Res → Prop) → Prop
  | [.v (.val (.string s)), .v (.int .i64 b)], R => (b = 10 ∨ b = 16) ∧ s.size ≤ 9 ∧ R (.v (.tuple [.int .i64 (valV b.toNat s.data.toList), .bool (valB b.toNat s.data.toList)]))
  | _, _ => False

def valueSt (l : List UInt8) (b : Int) (k : Nat) : St :=
  ⟨[.val (.string (tx l)), .int .i64 b, .any, .any, .any, .any, .int .i64 (valL b.toNat (l.take k)), .any, .any, .any, .int .i64 ((tx l).size : Nat), .int .i64 k, .any, .any, .any, .any, .any, .any, .any, .any, .any, .any, .any, .any, .any, .any, .any, .any, .any, .any, .any], []⟩

def valueM0 : Modes := ⟨[1, 1, 0, 0, 0, 0, 2, 0, 0, 0, 1, 2, 0, 0, 0, 0, 0, 0, 0, 0, 0, 0, 0, 0, 0, 0, 0, 0, 0, 0, 0], [], [], [], []⟩
def valueM : Modes := ⟨[1, 1, 0, 0, 0, 0, 1, 0, 0, 0, 1, 1, 0, 0, 0, 0, 0, 0, 0, 0, 0, 0, 0, 0, 0, 0, 0, 0, 0, 0, 0], [], [], [], []⟩
def valueM' : Modes := ⟨[0, 0, 0, 0, 1, 1, 0, 0, 0, 0, 0, 0, 0, 0, 0, 0, 0, 0, 0, 0, 0, 0, 0, 0, 0, 0, 0, 0, 0, 0, 0], [], [], [], []⟩
def valueMx : Modes := ⟨[1, 0, 0, 0, 0, 0, 1, 0, 0, 0, 0, 0, 0, 0, 0, 0, 0, 0, 0, 0, 0, 0, 0, 0, 0, 0, 0, 0, 0, 0, 0], [], [], [], []⟩

def valueI (l : List UInt8) (b : Int) (k : Nat) : Prop := k ≤ l.length ∧ okL b.toNat (l.take k) = true

def valueH (l : List UInt8) (b : Int) : List Hint := [.linv _ 0 (valueSt l b) (valueI l b) (fun k => 100 - k) valueM0 valueM ⟨[1, 0, 0, 0, 1, 1, 1, 0, 0, 0, 0, 0, 0, 0, 0, 0, 0, 0, 0, 0, 0, 0, 0, 0, 0, 0, 0, 0, 0, 0, 0], [], [], [], []⟩ (fun _ => []) fun k =>
  [.fork [.dy, .dy, .cell (.int .u8 ((l.getD k 0).toNat : Nat)), .fork [] [.nw, .nw, .nw]] []]]

def numberF : List Arg → (Res → Prop) → Prop
  | [.v (.val (.string s)), .v (.int .i64 m)], R => R (.v (.tuple [.int .i64 (numV s.data.toList m), .bool (numOK s.data.toList m)]))
  | _, _ => False

def numberH (l : List UInt8) : List Hint :=
  [.fork [] [.fork [.cell (.int .u8 ((l.getD 0 0).toNat : Nat)), .fork [] [.fork [] [.fork [] []]]] [.fork [] [.fork [] []]]]]

theorem cutl_run (s : ByteArray) (c : UInt8) (r : AV) : run idxCs Tryd.prog 34 [.val (.string s), .val (.string (tx [c]))] [] (cutlH c) (yields (.v r)) =
    (((↑(ByteArray.size (Go.Sx.M.tx [c])) : Int) == (0 : Int)) = Bool.false ∧ ((Go.Sx.M.tx [c] == s) = Bool.true → ((0 : Int) ≤ (0 : Int) ∧ (0 : Int) < (↑(ByteArray.size s + (1 : Nat)) : Int)) ∧ Go.Sx.inRange Go.IntKind.i64 ((0 : Int) + (↑(ByteArray.size (Go.Sx.M.tx [c])) : Int)) ∧ ((0 : Int) ≤ (0 : Int) + (↑(ByteArray.size (Go.Sx.M.tx [c])) : Int) ∧ (0 : Int) + (↑(ByteArray.size (Go.Sx.M.tx [c])) : Int) < (↑(ByteArray.size s + (1 : Nat)) : Int)) ∧ Go.Sx.AV.tuple [Go.Sx.AV.val (Go.Value.string (ByteArray.extract s (0 : Nat) (Int.toNat (0 : Int)))), Go.Sx.AV.val (Go.Value.string (ByteArray.extract s (Int.toNat ((0 : Int) + (↑(ByteArray.size (Go.Sx.M.tx [c])) : Int))) (ByteArray.size s))), Go.Sx.AV.bool Bool.true] = r) ∧ ((Go.Sx.M.tx [c] == s) = Bool.false → ((↑(ByteArray.size (Go.Sx.M.tx [c])) : Int) == (1 : Int)) = Bool.true ∧ ((0 : Int) ≤ (0 : Int) ∧ (0 : Int) < (↑(ByteArray.size (Go.Sx.M.tx [c])) : Int)) ∧ Option.map (fun (u : UInt8) => (↑(UInt8.toNat u) : Int)) (Go.Sx.M.tx [c])[Int.toNat (0 : Int)]? = Option.some (↑(UInt8.toNat c) : Int) ∧ (Decidable.decide (Go.Lib.indexByte (Array.toList (ByteArray.data s)) (Nat.toUInt8 (Int.toNat (↑(UInt8.toNat c) : Int))) ≥ (0 : Int)) = Bool.true → ((0 : Int) ≤ Go.Lib.indexByte (Array.toList (ByteArray.data s)) (Nat.toUInt8 (Int.toNat (↑(UInt8.toNat c) : Int))) ∧ Go.Lib.indexByte (Array.toList (ByteArray.data s)) (Nat.toUInt8 (Int.toNat (↑(UInt8.toNat c) : Int))) < (↑(ByteArray.size s + (1 : Nat)) : Int)) ∧ Go.Sx.inRange Go.IntKind.i64 (Go.Lib.indexByte (Array.toList (ByteArray.data s)) (Nat.toUInt8 (Int.toNat (↑(UInt8.toNat c) : Int))) + (↑(ByteArray.size (Go.Sx.M.tx [c])) : Int)) ∧ ((0 : Int) ≤ Go.Lib.indexByte (Array.toList (ByteArray.data s)) (Nat.toUInt8 (Int.toNat (↑(UInt8.toNat c) : Int))) + (↑(ByteArray.size (Go.Sx.M.tx [c])) : Int) ∧ Go.Lib.indexByte (Array.toList (ByteArray.data s)) (Nat.toUInt8 (Int.toNat (↑(UInt8.toNat c) : Int))) + (↑(ByteArray.size (Go.Sx.M.tx [c])) : Int) < (↑(ByteArray.size s + (1 : Nat)) : Int)) ∧ Go.Sx.AV.tuple [Go.Sx.AV.val (Go.Value.string (ByteArray.extract s (0 : Nat) (Int.toNat (Go.Lib.indexByte (Array.toList (ByteArray.data s)) (Nat.toUInt8 (Int.toNat (↑(UInt8.toNat c) : Int))))))), Go.Sx.AV.val (Go.Value.string (ByteArray.extract s (Int.toNat (Go.Lib.indexByte (Array.toList (ByteArray.data s)) (Nat.toUInt8 (Int.toNat (↑(UInt8.toNat c) : Int))) + (↑(ByteArray.size (Go.Sx.M.tx [c])) : Int))) (ByteArray.size s))), Go.Sx.AV.bool Bool.true] = r) ∧ (Decidable.decide (Go.Lib.indexByte (Array.toList (ByteArray.data s)) (Nat.toUInt8 (Int.toNat (↑(UInt8.toNat c) : Int))) ≥ (0 : Int)) = Bool.false → Go.Sx.AV.tuple [Go.Sx.AV.val (Go.Value.string s), Go.Sx.AV.val (Go.Value.string (Go.Sx.bstr [])), Go.Sx.AV.bool Bool.false] = r))) := by kernel_rfl

theorem value_run (l : List UInt8) (b : Int) (r : AV) : run idxCs Tryd.prog 38 [.val (.string (tx l)), .int .i64 b] [] (valueH l b) (yields (.v r)) =
    ((Go.Sx.St.mk [Go.Sx.AV.val (Go.Value.string (Go.Sx.M.tx l)), Go.Sx.AV.int Go.IntKind.i64 b, Go.Sx.AV.any, Go.Sx.AV.any, Go.Sx.AV.any, Go.Sx.AV.any, Go.Sx.AV.int Go.IntKind.i64 (0 : Int), Go.Sx.AV.any, Go.Sx.AV.any, Go.Sx.AV.any, Go.Sx.AV.int Go.IntKind.i64 (↑(ByteArray.size (Go.Sx.M.tx l)) : Int), Go.Sx.AV.int Go.IntKind.i64 (0 : Int), Go.Sx.AV.any, Go.Sx.AV.any, Go.Sx.AV.any, Go.Sx.AV.any, Go.Sx.AV.any, Go.Sx.AV.any, Go.Sx.AV.any, Go.Sx.AV.any, Go.Sx.AV.any, Go.Sx.AV.any, Go.Sx.AV.any, Go.Sx.AV.any, Go.Sx.AV.any, Go.Sx.AV.any, Go.Sx.AV.any, Go.Sx.AV.any, Go.Sx.AV.any, Go.Sx.AV.any, Go.Sx.AV.any] [] = Go.Proofs.YtkdcajibehpeaaaDoor.L1.valueSt l b (0 : Nat) ∧ Go.Proofs.YtkdcajibehpeaaaDoor.L1.valueI l b (0 : Nat)) ∧ ∀ (p : Nat), Go.Proofs.YtkdcajibehpeaaaDoor.L1.valueI l b p → (Decidable.decide ((↑p : Int) < (↑(ByteArray.size (Go.Sx.M.tx l)) : Int)) = Bool.true → ((0 : Int) ≤ b ∧ b < (↑(ByteArray.size (Go.Sx.bstr [(48 : Nat), (49 : Nat), (50 : Nat), (51 : Nat), (52 : Nat), (53 : Nat), (54 : Nat), (55 : Nat), (56 : Nat), (57 : Nat), (97 : Nat), (98 : Nat), (99 : Nat), (100 : Nat), (101 : Nat), (102 : Nat)]) + (1 : Nat)) : Int)) ∧ ((0 : Int) ≤ (↑p : Int) ∧ (↑p : Int) < (↑(ByteArray.size (Go.Sx.M.tx l)) : Int)) ∧ Option.map (fun (u : UInt8) => (↑(UInt8.toNat u) : Int)) (Go.Sx.M.tx l)[Int.toNat (↑p : Int)]? = Option.some (↑(UInt8.toNat (List.getD l p (0 : UInt8))) : Int) ∧ (Decidable.decide (Go.Lib.indexByte (Array.toList (ByteArray.data (ByteArray.extract (ByteArray.mk #[(48 : UInt8), (49 : UInt8), (50 : UInt8), (51 : UInt8), (52 : UInt8), (53 : UInt8), (54 : UInt8), (55 : UInt8), (56 : UInt8), (57 : UInt8), (97 : UInt8), (98 : UInt8), (99 : UInt8), (100 : UInt8), (101 : UInt8), (102 : UInt8)]) (0 : Nat) (Int.toNat b)))) (Nat.toUInt8 (Int.toNat (↑(UInt8.toNat (List.getD l p (0 : UInt8))) : Int))) < (0 : Int)) = Bool.true → Go.Sx.AV.tuple [Go.Sx.AV.int Go.IntKind.i64 (0 : Int), Go.Sx.AV.bool Bool.false] = r) ∧ (Decidable.decide (Go.Lib.indexByte (Array.toList (ByteArray.data (ByteArray.extract (ByteArray.mk #[(48 : UInt8), (49 : UInt8), (50 : UInt8), (51 : UInt8), (52 : UInt8), (53 : UInt8), (54 : UInt8), (55 : UInt8), (56 : UInt8), (57 : UInt8), (97 : UInt8), (98 : UInt8), (99 : UInt8), (100 : UInt8), (101 : UInt8), (102 : UInt8)]) (0 : Nat) (Int.toNat b)))) (Nat.toUInt8 (Int.toNat (↑(UInt8.toNat (List.getD l p (0 : UInt8))) : Int))) < (0 : Int)) = Bool.false → Go.Sx.inRange Go.IntKind.i64 (Go.Sx.M.valL (Int.toNat b) (List.take p l) * b) ∧ Go.Sx.inRange Go.IntKind.i64 (Go.Sx.M.valL (Int.toNat b) (List.take p l) * b + Go.Lib.indexByte (Array.toList (ByteArray.data (ByteArray.extract (Go.Sx.bstr [(48 : Nat), (49 : Nat), (50 : Nat), (51 : Nat), (52 : Nat), (53 : Nat), (54 : Nat), (55 : Nat), (56 : Nat), (57 : Nat), (97 : Nat), (98 : Nat), (99 : Nat), (100 : Nat), (101 : Nat), (102 : Nat)]) (0 : Nat) (Int.toNat b)))) (Nat.toUInt8 (Int.toNat (↑(UInt8.toNat (List.getD l p (0 : UInt8))) : Int)))) ∧ Go.Sx.inRange Go.IntKind.i64 ((↑p : Int) + (1 : Int)) ∧ ∃ (p' : Nat), Go.Sx.St.mk [Go.Sx.AV.val (Go.Value.string (Go.Sx.M.tx l)), Go.Sx.AV.int Go.IntKind.i64 b, Go.Sx.AV.any, Go.Sx.AV.any, Go.Sx.AV.any, Go.Sx.AV.any, Go.Sx.AV.int Go.IntKind.i64 (Go.Sx.M.valL (Int.toNat b) (List.take p l) * b + Go.Lib.indexByte (Array.toList (ByteArray.data (ByteArray.extract (Go.Sx.bstr [(48 : Nat), (49 : Nat), (50 : Nat), (51 : Nat), (52 : Nat), (53 : Nat), (54 : Nat), (55 : Nat), (56 : Nat), (57 : Nat), (97 : Nat), (98 : Nat), (99 : Nat), (100 : Nat), (101 : Nat), (102 : Nat)]) (0 : Nat) (Int.toNat b)))) (Nat.toUInt8 (Int.toNat (↑(UInt8.toNat (List.getD l p (0 : UInt8))) : Int)))), Go.Sx.AV.any, Go.Sx.AV.any, Go.Sx.AV.any, Go.Sx.AV.int Go.IntKind.i64 (↑(ByteArray.size (Go.Sx.M.tx l)) : Int), Go.Sx.AV.int Go.IntKind.i64 ((↑p : Int) + (1 : Int)), Go.Sx.AV.any, Go.Sx.AV.any, Go.Sx.AV.any, Go.Sx.AV.any, Go.Sx.AV.any, Go.Sx.AV.any, Go.Sx.AV.any, Go.Sx.AV.any, Go.Sx.AV.any, Go.Sx.AV.any, Go.Sx.AV.any, Go.Sx.AV.any, Go.Sx.AV.any, Go.Sx.AV.any, Go.Sx.AV.any, Go.Sx.AV.any, Go.Sx.AV.any, Go.Sx.AV.any, Go.Sx.AV.any] [] = Go.Proofs.YtkdcajibehpeaaaDoor.L1.valueSt l b p' ∧ Go.Proofs.YtkdcajibehpeaaaDoor.L1.valueI l b p' ∧ (100 : Nat) - p' < (100 : Nat) - p)) ∧ (Decidable.decide ((↑p : Int) < (↑(ByteArray.size (Go.Sx.M.tx l)) : Int)) = Bool.false → Go.Sx.AV.tuple [Go.Sx.AV.int Go.IntKind.i64 (Go.Sx.M.valL (Int.toNat b) (List.take p l)), Go.Sx.AV.bool !Go.Sx.M.tx l == Go.Sx.bstr []] = r)) := by kernel_rfl

noncomputable def numberCs : List (FuncId × Sx.Spec) := [(38, genSpec [none, none] valueF)]

theorem number_run (l : List UInt8) (m : Int) (r : AV) : run numberCs Tryd.prog 21 [.val (.string (tx l)), .int .i64 m] [] (numberH l) (yields (.v r)) =
    ((Decidable.decide ((↑(ByteArray.size (Go.Sx.M.tx l)) : Int) > (9 : Int)) = Bool.true → Go.Sx.AV.tuple [Go.Sx.AV.int Go.IntKind.i64 (0 : Int), Go.Sx.AV.bool Bool.false] = r) ∧ (Decidable.decide ((↑(ByteArray.size (Go.Sx.M.tx l)) : Int) > (9 : Int)) = Bool.false → (Decidable.decide ((↑(ByteArray.size (Go.Sx.M.tx l)) : Int) > (1 : Int)) = Bool.true → ((0 : Int) ≤ (0 : Int) ∧ (0 : Int) < (↑(ByteArray.size (Go.Sx.M.tx l)) : Int)) ∧ Option.map (fun (u : UInt8) => (↑(UInt8.toNat u) : Int)) (Go.Sx.M.tx l)[Int.toNat (0 : Int)]? = Option.some (↑(UInt8.toNat (List.getD l (0 : Nat) (0 : UInt8))) : Int) ∧ (((↑(UInt8.toNat (List.getD l (0 : Nat) (0 : UInt8))) : Int) == (48 : Int)) = Bool.true → Go.Sx.AV.tuple [Go.Sx.AV.int Go.IntKind.i64 (0 : Int), Go.Sx.AV.bool Bool.false] = r) ∧ (((↑(UInt8.toNat (List.getD l (0 : Nat) (0 : UInt8))) : Int) == (48 : Int)) = Bool.false → ((10 : Int) = (10 : Int) ∨ (10 : Int) = (16 : Int)) ∧ ByteArray.size (Go.Sx.M.tx l) ≤ (9 : Nat) ∧ ((!Go.Sx.M.valB (Int.toNat (10 : Int)) (Array.toList (ByteArray.data (Go.Sx.M.tx l)))) = Bool.true → Go.Sx.AV.tuple [Go.Sx.AV.int Go.IntKind.i64 (0 : Int), Go.Sx.AV.bool Bool.false] = r) ∧ ((!Go.Sx.M.valB (Int.toNat (10 : Int)) (Array.toList (ByteArray.data (Go.Sx.M.tx l)))) = Bool.false → (Decidable.decide (Go.Sx.M.valV (Int.toNat (10 : Int)) (Array.toList (ByteArray.data (Go.Sx.M.tx l))) > m) = Bool.true → Go.Sx.AV.tuple [Go.Sx.AV.int Go.IntKind.i64 (0 : Int), Go.Sx.AV.bool Bool.false] = r) ∧ (Decidable.decide (Go.Sx.M.valV (Int.toNat (10 : Int)) (Array.toList (ByteArray.data (Go.Sx.M.tx l))) > m) = Bool.false → Go.Sx.AV.tuple [Go.Sx.AV.int Go.IntKind.i64 (Go.Sx.M.valV (Int.toNat (10 : Int)) (Array.toList (ByteArray.data (Go.Sx.M.tx l)))), Go.Sx.AV.bool Bool.true] = r)))) ∧ (Decidable.decide ((↑(ByteArray.size (Go.Sx.M.tx l)) : Int) > (1 : Int)) = Bool.false → ((10 : Int) = (10 : Int) ∨ (10 : Int) = (16 : Int)) ∧ ByteArray.size (Go.Sx.M.tx l) ≤ (9 : Nat) ∧ ((!Go.Sx.M.valB (Int.toNat (10 : Int)) (Array.toList (ByteArray.data (Go.Sx.M.tx l)))) = Bool.true → Go.Sx.AV.tuple [Go.Sx.AV.int Go.IntKind.i64 (0 : Int), Go.Sx.AV.bool Bool.false] = r) ∧ ((!Go.Sx.M.valB (Int.toNat (10 : Int)) (Array.toList (ByteArray.data (Go.Sx.M.tx l)))) = Bool.false → (Decidable.decide (Go.Sx.M.valV (Int.toNat (10 : Int)) (Array.toList (ByteArray.data (Go.Sx.M.tx l))) > m) = Bool.true → Go.Sx.AV.tuple [Go.Sx.AV.int Go.IntKind.i64 (0 : Int), Go.Sx.AV.bool Bool.false] = r) ∧ (Decidable.decide (Go.Sx.M.valV (Int.toNat (10 : Int)) (Array.toList (ByteArray.data (Go.Sx.M.tx l))) > m) = Bool.false → Go.Sx.AV.tuple [Go.Sx.AV.int Go.IntKind.i64 (Go.Sx.M.valV (Int.toNat (10 : Int)) (Array.toList (ByteArray.data (Go.Sx.M.tx l)))), Go.Sx.AV.bool Bool.true] = r))))) := by kernel_rfl

theorem u8_back (c : UInt8) : Nat.toUInt8 (Int.toNat ((UInt8.toNat c : Nat) : Int)) = c := by
  rw [Int.toNat_natCast]; exact UInt8.ofNat_toNat

theorem bstr_nil : bstr [] = tx [] := rfl

theorem idxCs_ok : ∀ e ∈ idxCs, SpecOK Tryd.prog e.1 e.2 := by
  intro e he
  simp only [idxCs, List.mem_cons, List.not_mem_nil, or_false] at he
  rcases he with rfl
  exact idx_ok

theorem cutl_ok : SpecOK Tryd.prog 34 (genSpec [none, none] cutlF) := by
  refine genSpec_ok (run_ok (l := idxCs) idxCs_ok mixed noNG) fun l R hF => ?_
  unfold cutlF at hF
  split at hF
  · rename_i s sep
    obtain ⟨c, rfl, hs, hR⟩ := hF
    refine ⟨_, hR, rfl, cutlH c, ?_⟩
    show run idxCs Tryd.prog _ [.val (.string s), .val (.string (tx [c]))] [] _ _
    rw [cutl_run]
    obtain ⟨l, rfl⟩ : ∃ l, s = tx l := ⟨_, (tx_of s).symm⟩
    obtain ⟨h1, h2⟩ := indexByte_cut c l
    simp only [tx_size, tx_data, tx_extract, tx_beq, tx_get, u8_back, bstr_nil] at hs ⊢
    refine ⟨by simp, fun he => ?_, fun he => ⟨by simp, by simp, by simp, fun hi => ?_, fun hi => ?_⟩⟩
    · have he := (of_decide_eq_true he).symm
      subst he
      refine ⟨by simp, inR (by simp) (by simp), by simp, ?_⟩
      simp [cutL]
    · have hi : 0 ≤ Lib.indexByte l c := by simpa using hi
      obtain ⟨h3, h4⟩ := h2 hi
      simp only [List.length_cons, List.length_nil]
      refine ⟨by omega, inR (by omega) (by omega), by omega, ?_⟩
      rw [h4, List.take_of_length_le (Nat.le_refl _), show (Lib.indexByte l c + ((0 + 1 : Nat) : Int)).toNat = (Lib.indexByte l c).toNat + 1 from by omega, List.drop_zero]
    · have hi : Lib.indexByte l c < 0 := by simpa using hi
      rw [(h1 hi).1]
  · exact hF.elim

theorem hex_mk : (ByteArray.mk #[(48 : UInt8), (49 : UInt8), (50 : UInt8), (51 : UInt8), (52 : UInt8), (53 : UInt8), (54 : UInt8), (55 : UInt8), (56 : UInt8), (57 : UInt8), (97 : UInt8), (98 : UInt8), (99 : UInt8), (100 : UInt8), (101 : UInt8), (102 : UInt8)]) = tx hexs := rfl
theorem hex_bstr : bstr [48, 49, 50, 51, 52, 53, 54, 55, 56, 57, 97, 98, 99, 100, 101, 102] = tx hexs := rfl

theorem hex_dgt (b : Nat) (u : UInt8) : Lib.indexByte (Array.toList (ByteArray.data (ByteArray.extract (tx hexs) 0 b))) u = dgt b u := by
  rw [tx_extract, tx_data, List.drop_zero]; rfl

theorem map_get {l : List UInt8} {k : Nat} (h : k < l.length) : Option.map (fun (u : UInt8) => ((UInt8.toNat u : Nat) : Int)) l[Int.toNat (k : Int)]? = some ((UInt8.toNat (l.getD k 0) : Nat) : Int) := by
  rw [Int.toNat_natCast, List.getElem?_eq_getElem h, List.getD_eq_getElem?_getD, List.getElem?_eq_getElem h]; rfl

theorem take_next {l : List UInt8} {k : Nat} (h : k < l.length) : l.take (k + 1) = l.take k ++ [l.getD k 0] := by
  rw [List.take_add_one, List.getD_eq_getElem?_getD, List.getElem?_eq_getElem h]; rfl

theorem okL_take {b : Nat} {l : List UInt8} {k : Nat} (h : k < l.length) (hd : dgt b (l.getD k 0) < 0) : okL b l = false := by
  cases hk : okL b l with
  | false => rfl
  | true =>
    have := List.all_eq_true.1 hk (l.getD k 0) (by rw [List.getD_eq_getElem?_getD, List.getElem?_eq_getElem h]; exact List.getElem_mem h)
    simp only [decide_eq_true_eq] at this
    omega

theorem value_ok : SpecOK Tryd.prog 38 (genSpec [none, none] valueF) := by
  refine genSpec_ok (run_ok (l := idxCs) idxCs_ok mixed noNG) fun args R hF => ?_
  unfold valueF at hF
  split at hF
  · rename_i s b
    obtain ⟨hb, hs, hR⟩ := hF
    obtain ⟨l, rfl⟩ : ∃ l, s = tx l := ⟨_, (tx_of s).symm⟩
    rw [tx_data] at hR
    rw [tx_size] at hs
    refine ⟨_, hR, rfl, valueH l b, ?_⟩
    show run idxCs Tryd.prog _ [.val (.string (tx l)), .int .i64 b] [] _ _
    rw [value_run]
    have hbn : ((b.toNat : Nat) : Int) = b := by omega
    have hb16 : b.toNat ≤ 16 := by omega
    refine ⟨⟨rfl, Nat.zero_le _, rfl⟩, ?_⟩
    rintro k ⟨hk, hok⟩
    simp only [hex_mk, hex_bstr, hex_dgt, u8_back, tx_size, tx_get, bstr_nil, tx_beq]
    refine ⟨fun hlt => ?_, fun hge => ?_⟩
    · have hk' : k < l.length := by simpa using hlt
      have hd := dgt_bound hb16 (l.getD k 0)
      obtain ⟨v0, v1⟩ := valL_small (l := l.take k) hb16 (by rw [List.length_take]; omega) hok
      have e1 : 0 ≤ valL b.toNat (l.take k) * b := Int.mul_nonneg v0 (by omega)
      have e2 : valL b.toNat (l.take k) * b ≤ 68719476736 * 16 := Int.le_trans (Int.mul_le_mul_of_nonneg_right (show valL b.toNat (l.take k) ≤ 68719476736 by omega) (show 0 ≤ b by omega)) (by omega)
      refine ⟨by simp [hexs]; omega, by omega, map_get hk', fun hneg => ?_, fun hpos => ?_⟩
      · have hn : okL b.toNat l = false := okL_take hk' (by simpa using hneg)
        rw [valV, valB, hn]; rfl
      · have hp : 0 ≤ dgt b.toNat (l.getD k 0) := by simpa using hpos
        refine ⟨inR (by omega) (by omega), inR (by omega) (by omega), inR (by omega) (by omega), k + 1, ?_, ⟨by omega, ?_⟩, by omega⟩
        · unfold valueSt
          rw [take_next hk', valL_snoc, hbn, tx_size]
          rfl
        · rw [take_next hk', okL_snoc, hok, decide_eq_true hp]; rfl
    · have hk' : k = l.length := by
        have : ¬ k < l.length := by simpa using hge
        omega
      rw [hk', List.take_length] at hok ⊢
      rw [valV, valB, hok]
      simp
  · exact hF.elim

theorem numberCs_ok : ∀ e ∈ numberCs, SpecOK Tryd.prog e.1 e.2 := by
  intro e he
  simp only [numberCs, List.mem_cons, List.not_mem_nil, or_false] at he
  rcases he with rfl
  exact value_ok

theorem numOK_iff {l : List UInt8} {m : Int} : numOK l m = true ↔ l.length ≤ 9 ∧ ¬ (1 < l.length ∧ l[0]? = some 48) ∧ okL 10 l = true ∧ l ≠ [] ∧ valL 10 l ≤ m := by
  unfold numOK
  simp only [Bool.and_eq_true, decide_eq_true_eq, Bool.not_eq_true', Bool.and_eq_false_iff, decide_eq_false_iff_not]
  constructor
  · rintro ⟨h1, h2, h3, h4, h5⟩; exact ⟨h1, fun h => by rcases h2 with h2 | h2; exact h2 h.1; exact h2 h.2, h3, h4, h5⟩
  · rintro ⟨h1, h2, h3, h4, h5⟩
    refine ⟨h1, ?_, h3, h4, h5⟩
    by_cases h : 1 < l.length
    · exact .inr fun h' => h2 ⟨h, h'⟩
    · exact .inl h

theorem u8_int (a b : UInt8) : (((UInt8.toNat a : Nat) : Int) == ((UInt8.toNat b : Nat) : Int)) = decide (a = b) := by
  rw [Bool.eq_iff_iff, beq_iff_eq, decide_eq_true_eq, Int.natCast_inj, UInt8.toNat_inj]

theorem number_ok : SpecOK Tryd.prog 21 (genSpec [none, none] numberF) := by
  refine genSpec_ok (run_ok (l := numberCs) numberCs_ok mixed noNG) fun args R hF => ?_
  unfold numberF at hF
  split at hF
  · rename_i s m
    obtain ⟨l, rfl⟩ : ∃ l, s = tx l := ⟨_, (tx_of s).symm⟩
    rw [tx_data] at hF
    refine ⟨_, hF, rfl, numberH l, ?_⟩
    show run numberCs Tryd.prog _ [.val (.string (tx l)), .int .i64 m] [] _ _
    rw [number_run]
    simp only [tx_size, tx_get, tx_data, show Int.toNat 10 = 10 from rfl]
    have bad : ¬ numOK l m = true → AV.tuple [AV.int .i64 0, AV.bool false] = AV.tuple [AV.int .i64 (numV l m), AV.bool (numOK l m)] := by
      intro h
      have h' : numOK l m = false := by simpa using h
      unfold numV
      rw [h']; rfl
    have good : numOK l m = true → AV.tuple [AV.int .i64 (valV 10 l), AV.bool true] = AV.tuple [AV.int .i64 (numV l m), AV.bool (numOK l m)] := by
      intro h
      obtain ⟨_, _, h3, _, _⟩ := numOK_iff.1 h
      unfold numV valV
      rw [h, h3]
    have rest : l.length ≤ 9 → ¬ (1 < l.length ∧ l[0]? = some 48) → (True ∨ (10 : Int) = 16) ∧ l.length ≤ 9 ∧
        ((!valB 10 l) = true → AV.tuple [AV.int .i64 0, AV.bool false] = AV.tuple [AV.int .i64 (numV l m), AV.bool (numOK l m)]) ∧
        ((!valB 10 l) = false → (decide (valV 10 l > m) = true → AV.tuple [AV.int .i64 0, AV.bool false] = AV.tuple [AV.int .i64 (numV l m), AV.bool (numOK l m)]) ∧
          (decide (valV 10 l > m) = false → AV.tuple [AV.int .i64 (valV 10 l), AV.bool true] = AV.tuple [AV.int .i64 (numV l m), AV.bool (numOK l m)])) := by
      intro h9 h48
      refine ⟨.inl trivial, h9, fun hv => bad fun hn => ?_, fun hv => ⟨fun hm => bad fun hn => ?_, fun hm => good ?_⟩⟩
      · obtain ⟨_, _, h3, h4, _⟩ := numOK_iff.1 hn
        simp [valB, h3, h4] at hv
      · obtain ⟨_, _, h3, h4, h5⟩ := numOK_iff.1 hn
        simp [valV, h3] at hm; omega
      · simp [valB] at hv
        simp [valV, hv.1] at hm
        exact numOK_iff.2 ⟨h9, h48, hv.1, hv.2, hm⟩
    refine ⟨fun h => bad fun hn => ?_, fun h => ⟨fun h1 => ⟨⟨by simp, ?_⟩, ?_, fun h2 => bad fun hn => ?_, fun h2 => ?_⟩, fun h1 => ?_⟩⟩
    · have := (numOK_iff.1 hn).1
      simp at h; omega
    · simp at h1; omega
    · simp at h1; exact map_get (k := 0) (by omega)
    · have h1 : 1 < l.length := by simp at h1; omega
      refine (numOK_iff.1 hn).2.1 ⟨h1, ?_⟩
      have h3 := (u8_int (l.getD 0 0) 48).symm.trans h2
      rw [decide_eq_true_eq] at h3
      rw [← h3, List.getD_eq_getElem?_getD, List.getElem?_eq_getElem (by omega)]; rfl
    · refine rest (by simp at h; omega) ?_
      rintro ⟨h3, h4⟩
      have h5 := (u8_int (l.getD 0 0) 48).symm.trans h2
      rw [decide_eq_false_iff_not] at h5
      exact h5 (by rw [List.getD_eq_getElem?_getD, h4]; rfl)
    · refine rest (by simp at h; omega) ?_
      rintro ⟨h3, _⟩
      simp at h1; omega
  · exact hF.elim

end Go.Proofs.YtkdcajibehpeaaaDoor.L1
