/-
  The frame of the law Counts: from a walk to its row.
-/
import Derived.Test.YtbbiehgdkfgngaaL1Base
import Derived.WalkKit
import Derived.ProofKit
import Derived.OpenShut
import Derived.ShutString
import Derived.ChangeOld
import Derived.Below
namespace Go.Proofs.Ytbbiehgdkfgngaa.L1
open Go.Sx
open Go.ChangeShapes Go.WideShapes Go.ChangeAt Go.RowKit

/-- AddrCounts: the call, from a run of the calculus. -/
theorem addrCounts_call {C : Sx.Call} (hC : COK Try.prog false C) (a0 : BitVec 64) (a1 : BitVec 64) {hs : List Hint} (h : C 7 [.agg [.w64 a0, .w64 a1]] [] hs isTrue) (w : World) :
    Calls Try.prog 7 #[.agg #[.int .u64 (a0.toNat : Int), .int .u64 (a1.toNat : Int)]] w fun e w' => e = .returned (.bool true) ∧ Below w.heap.size w w' :=
  calls_true hC h (vs := [.agg #[.int .u64 (a0.toNat : Int), .int .u64 (a1.toNat : Int)]]) (.cons (.agg (.cons (.w64 _) (.cons (.w64 _) (.nil)))) (.nil)) noNG Try.func7 (by kernel_rfl)

set_option maxRecDepth 100000 in
theorem addrCounts_lifted (walk : ∀ (a0 : BitVec 64) (a1 : BitVec 64) (w : World), Calls Try.prog 7 #[.agg #[.int .u64 (a0.toNat : Int), .int .u64 (a1.toNat : Int)]] w fun e w' => e = .returned (.bool true) ∧ Below w.heap.size w w')
    (os : Os) (started : os.Started) (H : Type) (enc : TypeId × Value → H) :
    ReturnsInHanded {} Try.checked os 7 .any (Rows.addrCountsSpec.pre6 enc Try.prog Try.f7 Rows.addrCountsRow.domain false) (Rows.addrCountsSpec.post enc Try.prog Try.f7 false true false false) := by
  refine returnsInHanded_of_change (C := Try.checked) own started (by kernel_rfl) Try.func7
    (ChangeSpec.witness6 (enc := enc) (C := Try.checked) false ⟨#[], #[.agg #[.int .u64 0, .int .u64 0]], []⟩ 8 (by kernel_rfl) (by kernel_rfl) (by kernel_rfl) (by kernel_rfl)) ?_
  intro W base args ds gs before hval0 hW hcnd _
  have hval : ∀ (j : Nat) t v, Try.f7.params[j]? = some t → args[j]? = some v → Value.okWide Try.prog W .any base t v := hval0
  have hW' := hW
  obtain ⟨p, q, hA0, hV, rfl, hfz, hnd⟩ := hW
  have hA : DataW.TrodAll enc Try.prog W 0 (fun _ => true) true Try.f7.params.toList args.toList ds p := hA0
  rw [Try.params7] at hA hval
  obtain ⟨v0, vs0, d0, ds0, p0, q0, hargs, rfl, rfl, h0, r0⟩ := trodAll_cons hA
  obtain ⟨rfl, rfl, rfl⟩ := trodAll_nil r0
  obtain rfl : args = #[v0] := by cases args; simp_all
  obtain ⟨rfl, rfl⟩ := trodVars_none hV
  have k0 := h0
  have lt0 : ∀ x ∈ p0, x.block < W.heap.size := by obtain ⟨m, hm⟩ := k0; exact DataW.trod_lt m _ _ _ hm
  obtain ⟨l0, rfl⟩ := open_agg (by kernel_rfl) (hval 0 24 v0 rfl rfl)
  have g0_s : fitsAll [.int .u64, .int .u64] l0 := by have e := open_flat (D := 9) (ks := [.int .u64, .int .u64]) (v := .agg l0.toArray) (by kernel_rfl) (hval 0 24 _ rfl rfl) h0; simpa [Value.cells] using e
  obtain ⟨x0_0, l0_0, rfl, f0_0, g0_0⟩ := fits_cons g0_s
  obtain ⟨a0, rfl⟩ := fits_u64 f0_0
  obtain ⟨x0_1, l0_1, rfl, f0_1, g0_1⟩ := fits_cons g0_0
  obtain ⟨a1, rfl⟩ := fits_u64 f0_1
  obtain rfl := fits_nil g0_1
  clear hA0 hval0
  refine (walk a0 a1 W).mono fun e W' ⟨he, bel⟩ => ?_
  subst he
  exact ⟨_, rfl, _, _, _, [], _, [], hW', trodAll_mk1 (shut_bool Try.underlying4 _), (trodAll_cons_mk (Below.trod laidOut (by kernel_rfl) (of_decide_eq_true (by kernel_rfl)) k0 bel lt0) trodAll_mk0), rfl, bel.frame _, fun h => by cases h⟩

theorem addrCounts_of (walk : ∀ (a0 : BitVec 64) (a1 : BitVec 64) (w : World), Calls Try.prog 7 #[.agg #[.int .u64 (a0.toNat : Int), .int .u64 (a1.toNat : Int)]] w fun e w' => e = .returned (.bool true) ∧ Below w.heap.size w w') : Rows.AddrCountsSaid :=
  OpenClaim.holds_of_wide 7 Try.f7 rfl rfl rfl rfl rfl rfl rfl ⟨rfl, rfl, rfl, rfl, rfl⟩ rfl rfl rfl rfl rfl (by kernel_rfl) Try.func7 (by kernel_rfl)
    (of_decide_eq_true (by kernel_rfl)) (by unfold Func.isWrapper; first | (rw [if_pos (by decide +kernel)]; kernel_rfl) | (rw [if_neg (by decide +kernel)]; exact ⟨rfl, rfl⟩))
    (fun os started H enc _ => addrCounts_lifted walk os started H enc)

end Go.Proofs.Ytbbiehgdkfgngaa.L1
