/-
  Layer 3: contracts of the program's ParsePrefix, and of what the document fixes (awake).
-/
import Derived.Test.YtkdcajibehpeaaaDoorL3Q
namespace Go.Proofs.YtkdcajibehpeaaaDoor.L1
open Go.Sx Go.Sx.M Go.RowKit

/-- What is ahead of the slash, and behind it. -/
def ppA (l : List UInt8) : List UInt8 := (cutL 47 l).1
def ppB (l : List UInt8) : List UInt8 := (cutL 47 l).2.1

/-- Why a text is no prefix; 0: it is one. -/
def ppE (w : Int) (l : List UInt8) : Int := if paE w (ppA l) ≠ 0 then paE w (ppA l) else if numOK (ppB l) 128 = true then (if rightB w (paX w (ppA l)) (paY w (ppA l)) (numV (ppB l) 128) = true then 0 else 1) else 4
def ppX (w : Int) (l : List UInt8) : BitVec 64 := if ppE w l = 0 then paX w (ppA l) else 0#64
def ppY (w : Int) (l : List UInt8) : BitVec 64 := if ppE w l = 0 then paY w (ppA l) else 0#64
def ppN (w : Int) (l : List UInt8) : Int := if ppE w l = 0 then numV (ppB l) 128 else 0

def ppF : List Arg → (Res → Prop) → Prop
  | [.v (.int .i64 w), .v (.val (.string s))], R => s.size ≤ 1000000 ∧ R (.v (.tuple [.agg [.w64 (ppX w s.data.toList), .w64 (ppY w s.data.toList), .int .i64 (ppN w s.data.toList)], .int .i64 (ppE w s.data.toList)]))
  | _, _ => False

noncomputable def ppCs : List (FuncId × Sx.Spec) := [(34, genSpec [none, none] cutlF), (11, genSpec [none, none] paF), (21, genSpec [none, none] numberF),
  (25, genSpec [none, none] rightF)]

noncomputable def awCs : List (FuncId × Sx.Spec) := [(17, genSpec [none, none] ppF), (15, genSpec [none, none] prefF), (10, genSpec [none, none] addrF)]

def awF : List Arg → (Res → Prop) → Prop
  | [], R => R (.v (.bool true))
  | _, _ => False

theorem pp_run (w : Int) (l : List UInt8) (r : AV) : run ppCs Tryd.prog 17 [.int .i64 w, .val (.string (tx l))] [] [.fork [] [.fork [] [.fork [] []]]] (yields (.v r)) =
    (∃ (c : UInt8), Go.Sx.bstr [(47 : Nat)] = Go.Sx.M.tx [c] ∧ ByteArray.size (Go.Sx.M.tx l) ≤ (1000000 : Nat) ∧ ByteArray.size (Go.Sx.M.tx (Go.Sx.M.cutL c (Array.toList (ByteArray.data (Go.Sx.M.tx l)))).1) ≤ (1000000 : Nat) ∧ ((Go.Sx.M.paE w (Array.toList (ByteArray.data (Go.Sx.M.tx (Prod.fst (Go.Sx.M.cutL c (Array.toList (ByteArray.data (Go.Sx.M.tx l)))))))) != (0 : Int)) = Bool.true → Go.Sx.AV.tuple [Go.Sx.AV.agg [Go.Sx.AV.w64 (BitVec.ofInt (64 : Nat) (0 : Int)), Go.Sx.AV.w64 (BitVec.ofInt (64 : Nat) (0 : Int)), Go.Sx.AV.int Go.IntKind.i64 (0 : Int)], Go.Sx.AV.int Go.IntKind.i64 (Go.Sx.M.paE w (Array.toList (ByteArray.data (Go.Sx.M.tx (Go.Sx.M.cutL c (Array.toList (ByteArray.data (Go.Sx.M.tx l)))).1))))] = r) ∧ ((Go.Sx.M.paE w (Array.toList (ByteArray.data (Go.Sx.M.tx (Prod.fst (Go.Sx.M.cutL c (Array.toList (ByteArray.data (Go.Sx.M.tx l)))))))) != (0 : Int)) = Bool.false → ((!Go.Sx.M.numOK (Array.toList (ByteArray.data (Go.Sx.M.tx (Prod.fst (Prod.snd (Go.Sx.M.cutL c (Array.toList (ByteArray.data (Go.Sx.M.tx l))))))))) (128 : Int)) = Bool.true → Go.Sx.AV.tuple [Go.Sx.AV.agg [Go.Sx.AV.w64 (BitVec.ofInt (64 : Nat) (0 : Int)), Go.Sx.AV.w64 (BitVec.ofInt (64 : Nat) (0 : Int)), Go.Sx.AV.int Go.IntKind.i64 (0 : Int)], Go.Sx.AV.int Go.IntKind.i64 (4 : Int)] = r) ∧ ((!Go.Sx.M.numOK (Array.toList (ByteArray.data (Go.Sx.M.tx (Prod.fst (Prod.snd (Go.Sx.M.cutL c (Array.toList (ByteArray.data (Go.Sx.M.tx l))))))))) (128 : Int)) = Bool.false → ((!Go.Proofs.YtkdcajibehpeaaaDoor.L1.rightB w (Go.Sx.M.paX w (Array.toList (ByteArray.data (Go.Sx.M.tx (Prod.fst (Go.Sx.M.cutL c (Array.toList (ByteArray.data (Go.Sx.M.tx l))))))))) (Go.Sx.M.paY w (Array.toList (ByteArray.data (Go.Sx.M.tx (Prod.fst (Go.Sx.M.cutL c (Array.toList (ByteArray.data (Go.Sx.M.tx l))))))))) (Go.Sx.M.numV (Array.toList (ByteArray.data (Go.Sx.M.tx (Prod.fst (Prod.snd (Go.Sx.M.cutL c (Array.toList (ByteArray.data (Go.Sx.M.tx l))))))))) (128 : Int))) = Bool.true → Go.Sx.AV.tuple [Go.Sx.AV.agg [Go.Sx.AV.w64 (BitVec.ofInt (64 : Nat) (0 : Int)), Go.Sx.AV.w64 (BitVec.ofInt (64 : Nat) (0 : Int)), Go.Sx.AV.int Go.IntKind.i64 (0 : Int)], Go.Sx.AV.int Go.IntKind.i64 (1 : Int)] = r) ∧ ((!Go.Proofs.YtkdcajibehpeaaaDoor.L1.rightB w (Go.Sx.M.paX w (Array.toList (ByteArray.data (Go.Sx.M.tx (Prod.fst (Go.Sx.M.cutL c (Array.toList (ByteArray.data (Go.Sx.M.tx l))))))))) (Go.Sx.M.paY w (Array.toList (ByteArray.data (Go.Sx.M.tx (Prod.fst (Go.Sx.M.cutL c (Array.toList (ByteArray.data (Go.Sx.M.tx l))))))))) (Go.Sx.M.numV (Array.toList (ByteArray.data (Go.Sx.M.tx (Prod.fst (Prod.snd (Go.Sx.M.cutL c (Array.toList (ByteArray.data (Go.Sx.M.tx l))))))))) (128 : Int))) = Bool.false → Go.Sx.AV.tuple [Go.Sx.AV.agg [Go.Sx.AV.w64 (Go.Sx.M.paX w (Array.toList (ByteArray.data (Go.Sx.M.tx (Go.Sx.M.cutL c (Array.toList (ByteArray.data (Go.Sx.M.tx l)))).1)))), Go.Sx.AV.w64 (Go.Sx.M.paY w (Array.toList (ByteArray.data (Go.Sx.M.tx (Go.Sx.M.cutL c (Array.toList (ByteArray.data (Go.Sx.M.tx l)))).1)))), Go.Sx.AV.int Go.IntKind.i64 (Go.Sx.M.numV (Array.toList (ByteArray.data (Go.Sx.M.tx (Prod.snd (Go.Sx.M.cutL c (Array.toList (ByteArray.data (Go.Sx.M.tx l))))).1))) (128 : Int))], Go.Sx.AV.int Go.IntKind.i64 (0 : Int)] = r)))) := by kernel_rfl

theorem aw_run (r : AV) : run awCs Tryd.prog 12 [] [] (List.replicate 20 (.br true)) (yields (.v r)) =
    (ByteArray.size (Go.Sx.bstr [(49 : Nat), (48 : Nat), (46 : Nat), (49 : Nat), (46 : Nat), (48 : Nat), (46 : Nat), (48 : Nat), (47 : Nat), (49 : Nat), (54 : Nat)]) ≤ (1000000 : Nat) ∧ (Go.Proofs.YtkdcajibehpeaaaDoor.L1.ppE (32 : Int) [(49 : UInt8), (48 : UInt8), (46 : UInt8), (49 : UInt8), (46 : UInt8), (48 : UInt8), (46 : UInt8), (48 : UInt8), (47 : UInt8), (49 : UInt8), (54 : UInt8)] == (0 : Int)) = Bool.true ∧ (Go.Sx.bstr [(49 : Nat), (48 : Nat), (46 : Nat), (49 : Nat), (46 : Nat), (48 : Nat), (46 : Nat), (48 : Nat), (47 : Nat), (49 : Nat), (54 : Nat)] == Go.Sx.bstr [(49 : Nat), (48 : Nat), (46 : Nat), (49 : Nat), (46 : Nat), (48 : Nat), (46 : Nat), (48 : Nat), (47 : Nat), (49 : Nat), (54 : Nat)]) = Bool.true ∧ (Go.Sx.bstr [(48 : Nat), (97 : Nat), (48 : Nat), (49 : Nat), (58 : Nat), (48 : Nat), (48 : Nat), (48 : Nat), (48 : Nat), (58 : Nat), (48 : Nat), (48 : Nat), (48 : Nat), (48 : Nat), (58 : Nat), (48 : Nat), (48 : Nat), (48 : Nat), (48 : Nat), (58 : Nat), (48 : Nat), (48 : Nat), (48 : Nat), (48 : Nat), (58 : Nat), (48 : Nat), (48 : Nat), (48 : Nat), (48 : Nat), (58 : Nat), (48 : Nat), (48 : Nat), (48 : Nat), (48 : Nat), (58 : Nat), (48 : Nat), (48 : Nat), (48 : Nat), (48 : Nat), (47 : Nat), (49 : Nat), (54 : Nat)] == Go.Sx.bstr [(48 : Nat), (97 : Nat), (48 : Nat), (49 : Nat), (58 : Nat), (48 : Nat), (48 : Nat), (48 : Nat), (48 : Nat), (58 : Nat), (48 : Nat), (48 : Nat), (48 : Nat), (48 : Nat), (58 : Nat), (48 : Nat), (48 : Nat), (48 : Nat), (48 : Nat), (58 : Nat), (48 : Nat), (48 : Nat), (48 : Nat), (48 : Nat), (58 : Nat), (48 : Nat), (48 : Nat), (48 : Nat), (48 : Nat), (58 : Nat), (48 : Nat), (48 : Nat), (48 : Nat), (48 : Nat), (58 : Nat), (48 : Nat), (48 : Nat), (48 : Nat), (48 : Nat), (47 : Nat), (49 : Nat), (54 : Nat)]) = Bool.true ∧ Go.Sx.AV.bool (Go.Sx.bstr [(49 : Nat), (48 : Nat), (46 : Nat), (49 : Nat), (46 : Nat), (48 : Nat), (46 : Nat), (48 : Nat)] == Go.Sx.bstr [(49 : Nat), (48 : Nat), (46 : Nat), (49 : Nat), (46 : Nat), (48 : Nat), (46 : Nat), (48 : Nat)]) = r) := by kernel_rfl

theorem ppCs_ok : ∀ e ∈ ppCs, SpecOK Tryd.prog e.1 e.2 := by
  intro e he
  simp only [ppCs, List.mem_cons, List.not_mem_nil, or_false] at he
  rcases he with rfl | rfl | rfl | rfl
  · exact cutl_ok
  · exact pa_ok
  · exact number_ok
  · exact pright_ok

theorem cutL_len1 (c : UInt8) : ∀ l : List UInt8, (cutL c l).1.length ≤ l.length
  | [] => Nat.le_refl _
  | b :: l => by
    unfold cutL
    split
    · simp
    · have := cutL_len1 c l
      simp only [List.length_cons]; omega

theorem pp_ok : SpecOK Tryd.prog 17 (genSpec [none, none] ppF) := by
  refine genSpec_ok (run_ok (l := ppCs) ppCs_ok mixed noNG) fun args R hF => ?_
  unfold ppF at hF
  split at hF
  · rename_i w s
    obtain ⟨hs, hR⟩ := hF
    obtain ⟨l, rfl⟩ : ∃ l, s = tx l := ⟨_, (tx_of s).symm⟩
    rw [tx_data] at hR
    rw [tx_size] at hs
    refine ⟨_, hR, rfl, [.fork [] [.fork [] [.fork [] []]]], ?_⟩
    show run ppCs Tryd.prog _ [.int .i64 w, .val (.string (tx l))] [] _ _
    rw [pp_run]
    simp only [tx_data, tx_size]
    have hl := cutL_len1 47 l
    refine ⟨47, rfl, hs, by omega, ?_⟩
    have zero : ∀ e : Int, e ≠ 0 → ppE w l = e → AV.tuple [AV.agg [AV.w64 (BitVec.ofInt 64 0), AV.w64 (BitVec.ofInt 64 0), AV.int .i64 0], AV.int .i64 e] = AV.tuple [AV.agg [AV.w64 (ppX w l), AV.w64 (ppY w l), AV.int .i64 (ppN w l)], AV.int .i64 (ppE w l)] := by
      intro e he h
      unfold ppX ppY ppN
      rw [h, if_neg he, if_neg he, if_neg he]; rfl
    refine ⟨fun h1 => ?_, fun h1 => ⟨fun h2 => ?_, fun h2 => ⟨fun h3 => ?_, fun h3 => ?_⟩⟩⟩
    · have h1 : paE w (ppA l) ≠ 0 := by simpa [ppA] using h1
      refine zero _ h1 ?_
      unfold ppE; rw [if_pos h1]; rfl
    · have h1 : ¬ paE w (ppA l) ≠ 0 := by simpa [ppA] using h1
      have h2 : ¬ numOK (ppB l) 128 = true := by simpa [ppB] using h2
      refine zero _ (by omega) ?_
      unfold ppE; rw [if_neg h1, if_neg h2]
    · have h1 : ¬ paE w (ppA l) ≠ 0 := by simpa [ppA] using h1
      have h2 : numOK (ppB l) 128 = true := by simpa [ppB] using h2
      have h3 : ¬ rightB w (paX w (ppA l)) (paY w (ppA l)) (numV (ppB l) 128) = true := by simpa [ppA, ppB] using h3
      refine zero _ (by omega) ?_
      unfold ppE; rw [if_neg h1, if_pos h2, if_neg h3]
    · have h1 : ¬ paE w (ppA l) ≠ 0 := by simpa [ppA] using h1
      have h2 : numOK (ppB l) 128 = true := by simpa [ppB] using h2
      have h3 : rightB w (paX w (ppA l)) (paY w (ppA l)) (numV (ppB l) 128) = true := by simpa [ppA, ppB] using h3
      have h : ppE w l = 0 := by unfold ppE; rw [if_neg h1, if_pos h2, if_pos h3]
      unfold ppX ppY ppN
      rw [if_pos h, if_pos h, if_pos h, h]; rfl
  · exact hF.elim

theorem awCs_ok : ∀ e ∈ awCs, SpecOK Tryd.prog e.1 e.2 := by
  intro e he
  simp only [awCs, List.mem_cons, List.not_mem_nil, or_false] at he
  rcases he with rfl | rfl | rfl
  · exact pp_ok
  · exact pref_ok
  · exact addr_ok

theorem beq_self (s : ByteArray) : (s == s) = true := (MapKept.bytes_beq s s).2 rfl

theorem aw_ok : SpecOK Tryd.prog 12 (genSpec [] awF) := by
  refine genSpec_ok (run_ok (l := awCs) awCs_ok mixed noNG) fun args R hF => ?_
  unfold awF at hF
  split at hF
  · refine ⟨_, hF, rfl, List.replicate 20 (.br true), ?_⟩
    show run awCs Tryd.prog _ [] [] _ _
    rw [aw_run]
    refine ⟨by decide +kernel, by decide +kernel, beq_self _, beq_self _, ?_⟩
    rw [beq_self]
  · exact hF.elim

end Go.Proofs.YtkdcajibehpeaaaDoor.L1
