/-
  Layer 3: contracts of the document's own digits and Number.
-/
import Derived.Test.YtkdcajibehpeaaaDoorL3N
namespace Go.Proofs.YtkdcajibehpeaaaDoor.L1
open Go.Sx Go.Sx.M Go.RowKit

/-- Decimal digits, of numbers below N. -/
def digF (N : Nat) : List Arg → (Res → Prop) → Prop
  | [.v (.int .i64 n)], R => 0 ≤ n ∧ n < (N : Int) ∧ n ≤ 1000000000000 ∧ R (.v (.val (.string (tx (Lib.decDigits n.toNat)))))
  | _, _ => False

noncomputable def digCs (N : Nat) : List (FuncId × Sx.Spec) := [(32, genSpec [none] (digF N))]

def digH : List Hint := [.fork [.nw, .dy, .dy] [.nw]]

def rnumF : List Arg → (Res → Prop) → Prop
  | [.v (.val (.string s)), .v (.int .i64 m)], R => s.size ≤ 1000000 ∧ R (.v (.tuple [.int .i64 (numV s.data.toList m), .bool (numOK s.data.toList m)]))
  | _, _ => False

noncomputable def rnumCs : List (FuncId × Sx.Spec) := [(32, genSpec [none] (digF 1000000000001))]

def rnSt (l : List UInt8) (m : Int) (k : Nat) : St :=
  ⟨[.val (.string (tx l)), .int .i64 m, .any, .any, .any, .any, .int .i64 (valL 10 (l.take k)), .int .i64 k, .any, .any, .any, .any, .any, .any, .any, .any, .any, .any, .any, .any, .any, .any, .any, .any, .any, .any, .any, .any, .any, .any, .any, .any, .any, .any, .any, .any, .any, .any, .any, .any, .any, .any, .any, .any, .any, .any, .any, .any, .any, .any], []⟩
def rnM0 : Modes := ⟨[1, 1, 0, 0, 0, 0, 2, 2, 0, 0, 0, 0, 0, 0, 0, 0, 0, 0, 0, 0, 0, 0, 0, 0, 0, 0, 0, 0, 0, 0, 0, 0, 0, 0, 0, 0, 0, 0, 0, 0, 0, 0, 0, 0, 0, 0, 0, 0, 0, 0], [], [], [], []⟩
def rnM : Modes := ⟨[1, 1, 0, 0, 0, 0, 1, 1, 0, 0, 0, 0, 0, 0, 0, 0, 0, 0, 0, 0, 0, 0, 0, 0, 0, 0, 0, 0, 0, 0, 0, 0, 0, 0, 0, 0, 0, 0, 0, 0, 0, 0, 0, 0, 0, 0, 0, 0, 0, 0], [], [], [], []⟩
def rnM' : Modes := ⟨[1, 1, 0, 0, 1, 1, 1, 0, 0, 0, 0, 0, 0, 0, 0, 0, 0, 0, 0, 0, 0, 0, 0, 0, 0, 0, 0, 0, 0, 0, 0, 0, 0, 0, 0, 0, 0, 0, 0, 0, 0, 0, 0, 0, 0, 0, 0, 0, 0, 0], [], [], [], []⟩
def rnI (l : List UInt8) (k : Nat) : Prop := k ≤ l.length ∧ k ≤ 9 ∧ okL 10 (l.take k) = true
def rnC (l : List UInt8) (k : Nat) : Hint := .cell (.int .u8 ((l.getD k 0).toNat : Nat))
def rnH (l : List UInt8) (m : Int) : List Hint := [.linv _ 0 (rnSt l m) (rnI l) (fun k => 100 - k) rnM0 rnM rnM' (fun _ => [.fork [] [.fork [] [.fork [] []]]]) fun k =>
  [.fork [.dy, rnC l k, .fork [] [.dy, rnC l k, .fork [] [.fork [] [.nw, .dy, rnC l k, .nw, .nw, .nw]]]] []]]

theorem digit_fin : ∀ n : Fin 256, (0 ≤ dgt 10 (UInt8.ofNat n.val) → 48 ≤ n.val ∧ n.val ≤ 57 ∧ dgt 10 (UInt8.ofNat n.val) = (n.val : Int) - 48) ∧ (48 ≤ n.val → n.val ≤ 57 → 0 ≤ dgt 10 (UInt8.ofNat n.val)) := by decide +kernel
theorem digit_of (u : UInt8) : (0 ≤ dgt 10 u → 48 ≤ u.toNat ∧ u.toNat ≤ 57 ∧ dgt 10 u = (u.toNat : Int) - 48) ∧ (48 ≤ u.toNat → u.toNat ≤ 57 → 0 ≤ dgt 10 u) := by
  have := digit_fin ⟨u.toNat, u.toNat_lt⟩
  simp only [u8_fin] at this
  exact this

theorem num_iff {l : List UInt8} {m : Int} : numOK l m = true ↔ l.length ≤ 9 ∧ okL 10 l = true ∧ l ≠ [] ∧ Lib.decDigits (valL 10 l).toNat = l ∧ valL 10 l ≤ m := by
  constructor
  · intro h
    obtain ⟨h1, h2, h3, h4, h5⟩ := numOK_iff.1 h
    exact ⟨h1, h3, h4, (dec_val _ l rfl h4 h3 h2).1, h5⟩
  · rintro ⟨h1, h3, h4, he, h5⟩
    refine numOK_iff.2 ⟨h1, fun ⟨ha, hb⟩ => ?_, h3, h4, h5⟩
    rcases Nat.lt_or_ge (valL 10 l).toNat 10 with h | h
    · rw [Lib.decDigits_one h] at he
      rw [← he] at ha; simp at ha
    · exact dec_head _ _ (Nat.le_refl _) h (by rw [he]; exact hb)

theorem dig_run (N : Nat) (n : Int) (r : AV) : evFn (run (digCs N) Tryd.prog) Tryd.prog 32 [.int .i64 n] [] digH (yields (.v r)) =
    ((Decidable.decide (n < (10 : Int)) = Bool.true → Go.Sx.inRange Go.IntKind.i64 (n + (1 : Int)) ∧ ((0 : Int) ≤ n + (1 : Int) ∧ n + (1 : Int) < (↑(ByteArray.size (Go.Sx.bstr [(48 : Nat), (49 : Nat), (50 : Nat), (51 : Nat), (52 : Nat), (53 : Nat), (54 : Nat), (55 : Nat), (56 : Nat), (57 : Nat)]) + (1 : Nat)) : Int)) ∧ ((0 : Int) ≤ n ∧ n < (↑(Int.toNat (n + (1 : Int)) + (1 : Nat)) : Int)) ∧ Go.Sx.AV.val (Go.Value.string (ByteArray.extract (Go.Sx.bstr [(48 : Nat), (49 : Nat), (50 : Nat), (51 : Nat), (52 : Nat), (53 : Nat), (54 : Nat), (55 : Nat), (56 : Nat), (57 : Nat)]) (Int.toNat n) (Int.toNat (n + (1 : Int))))) = r) ∧ (Decidable.decide (n < (10 : Int)) = Bool.false → Go.Sx.inRange Go.IntKind.i64 (Int.tdiv n (10 : Int)) ∧ (0 : Int) ≤ Int.tdiv n (10 : Int) ∧ Int.tdiv n (10 : Int) < (↑N : Int) ∧ Int.tdiv n (10 : Int) ≤ (1000000000000 : Int) ∧ (0 : Int) ≤ Int.tmod n (10 : Int) ∧ Int.tmod n (10 : Int) < (↑N : Int) ∧ Int.tmod n (10 : Int) ≤ (1000000000000 : Int) ∧ ByteArray.size (Go.Sx.M.tx (Go.Lib.decDigits (Int.toNat (Int.tdiv n (10 : Int))))) + ByteArray.size (Go.Sx.M.tx (Go.Lib.decDigits (Int.toNat (Int.tmod n (10 : Int))))) ≤ (9223372036854775807 : Nat) ∧ Go.Sx.AV.val (Go.Value.string (Go.Sx.M.tx (Go.Lib.decDigits (Int.toNat (Int.tdiv n (10 : Int)))) ++ Go.Sx.M.tx (Go.Lib.decDigits (Int.toNat (Int.tmod n (10 : Int)))))) = r)) := by kernel_rfl

theorem rnum_run (l : List UInt8) (m : Int) (r : AV) : run rnumCs Tryd.prog 22 [.val (.string (tx l)), .int .i64 m] [] (rnH l m) (yields (.v r)) =
    ((Go.Sx.St.mk [Go.Sx.AV.val (Go.Value.string (Go.Sx.M.tx l)), Go.Sx.AV.int Go.IntKind.i64 m, Go.Sx.AV.any, Go.Sx.AV.any, Go.Sx.AV.any, Go.Sx.AV.any, Go.Sx.AV.int Go.IntKind.i64 (0 : Int), Go.Sx.AV.int Go.IntKind.i64 (0 : Int), Go.Sx.AV.any, Go.Sx.AV.any, Go.Sx.AV.any, Go.Sx.AV.any, Go.Sx.AV.any, Go.Sx.AV.any, Go.Sx.AV.any, Go.Sx.AV.any, Go.Sx.AV.any, Go.Sx.AV.any, Go.Sx.AV.any, Go.Sx.AV.any, Go.Sx.AV.any, Go.Sx.AV.any, Go.Sx.AV.any, Go.Sx.AV.any, Go.Sx.AV.any, Go.Sx.AV.any, Go.Sx.AV.any, Go.Sx.AV.any, Go.Sx.AV.any, Go.Sx.AV.any, Go.Sx.AV.any, Go.Sx.AV.any, Go.Sx.AV.any, Go.Sx.AV.any, Go.Sx.AV.any, Go.Sx.AV.any, Go.Sx.AV.any, Go.Sx.AV.any, Go.Sx.AV.any, Go.Sx.AV.any, Go.Sx.AV.any, Go.Sx.AV.any, Go.Sx.AV.any, Go.Sx.AV.any, Go.Sx.AV.any, Go.Sx.AV.any, Go.Sx.AV.any, Go.Sx.AV.any, Go.Sx.AV.any, Go.Sx.AV.any] [] = Go.Proofs.YtkdcajibehpeaaaDoor.L1.rnSt l m (0 : Nat) ∧ Go.Proofs.YtkdcajibehpeaaaDoor.L1.rnI l (0 : Nat)) ∧ ∀ (p : Nat), Go.Proofs.YtkdcajibehpeaaaDoor.L1.rnI l p → (Decidable.decide ((↑p : Int) < (↑(ByteArray.size (Go.Sx.M.tx l)) : Int)) = Bool.true → ((0 : Int) ≤ (↑p : Int) ∧ (↑p : Int) < (↑(ByteArray.size (Go.Sx.M.tx l)) : Int)) ∧ Option.map (fun (u : UInt8) => (↑(UInt8.toNat u) : Int)) (Go.Sx.M.tx l)[Int.toNat (↑p : Int)]? = Option.some (↑(UInt8.toNat (List.getD l p (0 : UInt8))) : Int) ∧ (Decidable.decide ((↑(UInt8.toNat (List.getD l p (0 : UInt8))) : Int) < (48 : Int)) = Bool.true → Go.Sx.AV.tuple [Go.Sx.AV.int Go.IntKind.i64 (0 : Int), Go.Sx.AV.bool Bool.false] = r) ∧ (Decidable.decide ((↑(UInt8.toNat (List.getD l p (0 : UInt8))) : Int) < (48 : Int)) = Bool.false → ((0 : Int) ≤ (↑p : Int) ∧ (↑p : Int) < (↑(ByteArray.size (Go.Sx.M.tx l)) : Int)) ∧ Option.map (fun (u : UInt8) => (↑(UInt8.toNat u) : Int)) (Go.Sx.M.tx l)[Int.toNat (↑p : Int)]? = Option.some (↑(UInt8.toNat (List.getD l p (0 : UInt8))) : Int) ∧ (Decidable.decide ((↑(UInt8.toNat (List.getD l p (0 : UInt8))) : Int) > (57 : Int)) = Bool.true → Go.Sx.AV.tuple [Go.Sx.AV.int Go.IntKind.i64 (0 : Int), Go.Sx.AV.bool Bool.false] = r) ∧ (Decidable.decide ((↑(UInt8.toNat (List.getD l p (0 : UInt8))) : Int) > (57 : Int)) = Bool.false → (Decidable.decide ((↑p : Int) ≥ (9 : Int)) = Bool.true → Go.Sx.AV.tuple [Go.Sx.AV.int Go.IntKind.i64 (0 : Int), Go.Sx.AV.bool Bool.false] = r) ∧ (Decidable.decide ((↑p : Int) ≥ (9 : Int)) = Bool.false → Go.Sx.inRange Go.IntKind.i64 (Go.Sx.M.valL (10 : Nat) (List.take p l) * (10 : Int)) ∧ ((0 : Int) ≤ (↑p : Int) ∧ (↑p : Int) < (↑(ByteArray.size (Go.Sx.M.tx l)) : Int)) ∧ Option.map (fun (u : UInt8) => (↑(UInt8.toNat u) : Int)) (Go.Sx.M.tx l)[Int.toNat (↑p : Int)]? = Option.some (↑(UInt8.toNat (List.getD l p (0 : UInt8))) : Int) ∧ Go.Sx.inRange Go.IntKind.u8 ((↑(UInt8.toNat (List.getD l p (0 : UInt8))) : Int) - (48 : Int)) ∧ Go.Sx.inRange Go.IntKind.i64 (Go.Sx.M.valL (10 : Nat) (List.take p l) * (10 : Int) + Go.IntKind.wrap Go.IntKind.i64 ((↑(UInt8.toNat (List.getD l p (0 : UInt8))) : Int) - (48 : Int))) ∧ Go.Sx.inRange Go.IntKind.i64 ((↑p : Int) + (1 : Int)) ∧ ∃ (p' : Nat), Go.Sx.St.mk [Go.Sx.AV.val (Go.Value.string (Go.Sx.M.tx l)), Go.Sx.AV.int Go.IntKind.i64 m, Go.Sx.AV.any, Go.Sx.AV.any, Go.Sx.AV.any, Go.Sx.AV.any, Go.Sx.AV.int Go.IntKind.i64 (Go.Sx.M.valL (10 : Nat) (List.take p l) * (10 : Int) + Go.IntKind.wrap Go.IntKind.i64 ((↑(UInt8.toNat (List.getD l p (0 : UInt8))) : Int) - (48 : Int))), Go.Sx.AV.int Go.IntKind.i64 ((↑p : Int) + (1 : Int)), Go.Sx.AV.any, Go.Sx.AV.any, Go.Sx.AV.any, Go.Sx.AV.any, Go.Sx.AV.any, Go.Sx.AV.any, Go.Sx.AV.any, Go.Sx.AV.any, Go.Sx.AV.any, Go.Sx.AV.any, Go.Sx.AV.any, Go.Sx.AV.any, Go.Sx.AV.any, Go.Sx.AV.any, Go.Sx.AV.any, Go.Sx.AV.any, Go.Sx.AV.any, Go.Sx.AV.any, Go.Sx.AV.any, Go.Sx.AV.any, Go.Sx.AV.any, Go.Sx.AV.any, Go.Sx.AV.any, Go.Sx.AV.any, Go.Sx.AV.any, Go.Sx.AV.any, Go.Sx.AV.any, Go.Sx.AV.any, Go.Sx.AV.any, Go.Sx.AV.any, Go.Sx.AV.any, Go.Sx.AV.any, Go.Sx.AV.any, Go.Sx.AV.any, Go.Sx.AV.any, Go.Sx.AV.any, Go.Sx.AV.any, Go.Sx.AV.any, Go.Sx.AV.any, Go.Sx.AV.any, Go.Sx.AV.any, Go.Sx.AV.any] [] = Go.Proofs.YtkdcajibehpeaaaDoor.L1.rnSt l m p' ∧ Go.Proofs.YtkdcajibehpeaaaDoor.L1.rnI l p' ∧ (100 : Nat) - p' < (100 : Nat) - p)))) ∧ (Decidable.decide ((↑p : Int) < (↑(ByteArray.size (Go.Sx.M.tx l)) : Int)) = Bool.false → ((Go.Sx.M.tx l == ByteArray.mk #[]) = Bool.true → Go.Sx.AV.tuple [Go.Sx.AV.int Go.IntKind.i64 (0 : Int), Go.Sx.AV.bool Bool.false] = r) ∧ ((Go.Sx.M.tx l == ByteArray.mk #[]) = Bool.false → (0 : Int) ≤ Go.Sx.M.valL (10 : Nat) (List.take p l) ∧ Go.Sx.M.valL (10 : Nat) (List.take p l) < (↑(1000000000001 : Nat) : Int) ∧ Go.Sx.M.valL (10 : Nat) (List.take p l) ≤ (1000000000000 : Int) ∧ ((!Go.Sx.M.tx (Go.Lib.decDigits (Int.toNat (Go.Sx.M.valL (10 : Nat) (List.take p l)))) == Go.Sx.M.tx l) = Bool.true → Go.Sx.AV.tuple [Go.Sx.AV.int Go.IntKind.i64 (0 : Int), Go.Sx.AV.bool Bool.false] = r) ∧ ((!Go.Sx.M.tx (Go.Lib.decDigits (Int.toNat (Go.Sx.M.valL (10 : Nat) (List.take p l)))) == Go.Sx.M.tx l) = Bool.false → (Decidable.decide (Go.Sx.M.valL (10 : Nat) (List.take p l) > m) = Bool.true → Go.Sx.AV.tuple [Go.Sx.AV.int Go.IntKind.i64 (0 : Int), Go.Sx.AV.bool Bool.false] = r) ∧ (Decidable.decide (Go.Sx.M.valL (10 : Nat) (List.take p l) > m) = Bool.false → Go.Sx.AV.tuple [Go.Sx.AV.int Go.IntKind.i64 (Go.Sx.M.valL (10 : Nat) (List.take p l)), Go.Sx.AV.bool Bool.true] = r))))) := by kernel_rfl

theorem dec_le : ∀ (k n : Nat), n ≤ k → (Lib.decDigits n).length ≤ n + 1 := by
  intro k
  induction k with
  | zero => intro n h; rw [Lib.decDigits_one (by omega)]; simp
  | succ k ih =>
    intro n h
    by_cases h1 : n < 10
    · rw [Lib.decDigits_one h1]; simp
    · rw [Lib.decDigits, dif_neg h1, List.length_append]
      have := ih (n / 10) (by omega)
      simp only [List.length_cons, List.length_nil]
      omega

theorem ten_bstr : bstr [48, 49, 50, 51, 52, 53, 54, 55, 56, 57] = tx (hexs.take 10) := rfl
theorem ten_fin : ∀ n : Fin 10, ((hexs.take 10).take (n.val + 1)).drop n.val = Lib.decDigits n.val := by decide +kernel

theorem dig_ok : ∀ N : Nat, SpecOK Tryd.prog 32 (genSpec [none] (digF N))
  | 0 => by
    refine genSpec_ok none_ok fun args R hF => ?_
    unfold digF at hF
    split at hF
    · obtain ⟨h1, h2, _⟩ := hF
      exact absurd h2 (by simp; omega)
    · exact hF.elim
  | N + 1 => by
    have hCs : ∀ e ∈ digCs N, SpecOK Tryd.prog e.1 e.2 := by
      intro e he
      simp only [digCs, List.mem_cons, List.not_mem_nil, or_false] at he
      rcases he with rfl
      exact dig_ok N
    refine genSpec_ok (evFn_ok (run_ok (l := digCs N) hCs mixed noNG) mixed noNG) fun args R hF => ?_
    unfold digF at hF
    split at hF
    · rename_i n
      obtain ⟨h0, h1, h2, hR⟩ := hF
      refine ⟨_, hR, rfl, digH, ?_⟩
      show evFn (run (digCs N) Tryd.prog) Tryd.prog _ [.int .i64 n] [] _ _
      rw [dig_run]
      have hq : n.tdiv 10 = n / 10 := Int.tdiv_eq_ediv_of_nonneg h0
      have hm : n.tmod 10 = n % 10 := Int.tmod_eq_emod_of_nonneg h0
      rw [ten_bstr]
      simp only [tx_size, tx_extract, hq, hm, tx_append]
      have hl : (hexs.take 10).length = 10 := rfl
      refine ⟨fun h => ?_, fun h => ?_⟩
      · have h : n < 10 := by simpa using h
        have hf := ten_fin ⟨n.toNat, by omega⟩
        refine ⟨inR (by omega) (by omega), ⟨by omega, by omega⟩, ⟨h0, by omega⟩, ?_⟩
        rw [show (n + 1).toNat = n.toNat + 1 from by omega, hf]
      · have h : ¬ n < 10 := by simpa using h
        have l1 := dec_le _ (n / 10).toNat (Nat.le_refl _)
        have l2 := dec_le _ (n % 10).toNat (Nat.le_refl _)
        refine ⟨inR (by omega) (by omega), by omega, by omega, by omega, by omega, by omega, by omega, by omega, ?_⟩
        rw [Lib.decDigits_one (i := (n % 10).toNat) (by omega)]
        rw [Lib.decDigits.eq_1 n.toNat, dif_neg (by omega), show n.toNat / 10 = (n / 10).toNat from by omega, show n.toNat % 10 = (n % 10).toNat from by omega]
    · exact hF.elim

theorem rnumCs_ok : ∀ e ∈ rnumCs, SpecOK Tryd.prog e.1 e.2 := by
  intro e he
  simp only [rnumCs, List.mem_cons, List.not_mem_nil, or_false] at he
  rcases he with rfl
  exact dig_ok _

theorem rnum_ok : SpecOK Tryd.prog 22 (genSpec [none, none] rnumF) := by
  refine genSpec_ok (run_ok (l := rnumCs) rnumCs_ok mixed noNG) fun args R hF => ?_
  unfold rnumF at hF
  split at hF
  · rename_i s m
    obtain ⟨hs, hR⟩ := hF
    obtain ⟨l, rfl⟩ : ∃ l, s = tx l := ⟨_, (tx_of s).symm⟩
    rw [tx_data] at hR
    rw [tx_size] at hs
    refine ⟨_, hR, rfl, rnH l m, ?_⟩
    show run rnumCs Tryd.prog _ [.val (.string (tx l)), .int .i64 m] [] _ _
    rw [rnum_run]
    have bad : ¬ numOK l m = true → AV.tuple [AV.int .i64 0, AV.bool false] = AV.tuple [AV.int .i64 (numV l m), AV.bool (numOK l m)] := by
      intro h
      have h' : numOK l m = false := by simpa using h
      unfold numV
      rw [h']; rfl
    refine ⟨⟨rfl, Nat.zero_le _, Nat.zero_le _, rfl⟩, ?_⟩
    rintro k ⟨hk, hk9, hok⟩
    have nil' : (ByteArray.mk #[] : ByteArray) = tx [] := rfl
    simp only [nil', tx_size, tx_get, tx_beq]
    refine ⟨fun hlt => ?_, fun hge => ?_⟩
    · have hk' : k < l.length := by simpa using hlt
      obtain ⟨d1, d2⟩ := digit_of (l.getD k 0)
      have no : ¬ 0 ≤ dgt 10 (l.getD k 0) → ¬ numOK l m = true := by
        intro hd hn
        have h3 := (numOK_iff.1 hn).2.2.1
        rw [okL_take hk' (by omega)] at h3; cases h3
      refine ⟨⟨by omega, by omega⟩, map_get hk', fun h1 => bad (no fun h => ?_), fun h1 => ⟨⟨by omega, by omega⟩, map_get hk', fun h2 => bad (no fun h => ?_), fun h2 => ⟨fun h3 => bad fun hn => ?_, fun h3 => ?_⟩⟩⟩
      · have := (d1 h).1; have : (((l.getD k 0).toNat : Nat) : Int) < 48 := of_decide_eq_true h1; omega
      · have := (d1 h).2.1; have : (((l.getD k 0).toNat : Nat) : Int) > 57 := of_decide_eq_true h2; omega
      · have := (numOK_iff.1 hn).1; simp at h3; omega
      · have h1 : 48 ≤ (l.getD k 0).toNat := by have : ¬ (((l.getD k 0).toNat : Nat) : Int) < 48 := of_decide_eq_false h1; omega
        have h2 : (l.getD k 0).toNat ≤ 57 := by have : ¬ (((l.getD k 0).toNat : Nat) : Int) > 57 := of_decide_eq_false h2; omega
        have h3 : k < 9 := by have : ¬ ((k : Nat) : Int) ≥ 9 := of_decide_eq_false h3; omega
        have hd := d2 h1 h2
        have he := (d1 hd).2.2
        obtain ⟨v0, v1⟩ := valL_small (l := l.take k) (b := 10) (by omega) (by rw [List.length_take]; omega) hok
        have hw : IntKind.i64.wrap (((l.getD k 0).toNat : Nat) - 48 : Int) = ((l.getD k 0).toNat : Nat) - 48 := wrap_inRange (inR (by omega) (by omega))
        rw [hw]
        refine ⟨inR (by omega) (by omega), ⟨by omega, by omega⟩, map_get hk', ⟨by show (0 : Int) ≤ _; omega, by show _ ≤ (255 : Int); omega⟩, inR (by omega) (by omega), inR (by omega) (by omega), k + 1, ?_, ⟨by omega, by omega, ?_⟩, by omega⟩
        · unfold rnSt
          rw [take_next hk', valL_snoc, he]
          rfl
        · rw [take_next hk', okL_snoc, hok, decide_eq_true hd]; rfl
    · have hk' : k = l.length := by
        have : ¬ k < l.length := by simpa using hge
        omega
      rw [hk', List.take_length] at hok ⊢
      obtain ⟨v0, v1⟩ := valL_small (l := l) (b := 10) (by omega) (by omega) hok
      refine ⟨fun h => bad fun hn => ?_, fun h => ⟨v0, by omega, by omega, fun h1 => bad fun hn => ?_, fun h1 => ⟨fun h2 => bad fun hn => ?_, fun h2 => ?_⟩⟩⟩
      · exact (num_iff.1 hn).2.2.1 (of_decide_eq_true h)
      · have h1 : ¬ Lib.decDigits (valL 10 l).toNat = l := by simpa using h1
        exact h1 (num_iff.1 hn).2.2.2.1
      · have h2 : valL 10 l > m := of_decide_eq_true h2
        have := (num_iff.1 hn).2.2.2.2
        omega
      · have h1 : Lib.decDigits (valL 10 l).toNat = l := by simpa using h1
        have h2 : ¬ valL 10 l > m := of_decide_eq_false h2
        have hn : numOK l m = true := num_iff.2 ⟨by omega, hok, of_decide_eq_false h, h1, by omega⟩
        unfold numV
        rw [hn]; rfl
  · exact hF.elim

end Go.Proofs.YtkdcajibehpeaaaDoor.L1
