/-
  The law SplitFiner: its frame.
-/
import Derived.Test.YthfgocpejlhanaaL5a
import Derived.WalkKit
import Derived.ProofKit
import Derived.OpenShut
import Derived.ShutString
import Derived.ChangeOld
import Derived.Below
namespace Go.Proofs.Ythfgocpejlhanaa.L1
open Go.Sx
open Go.ChangeShapes Go.WideShapes Go.ChangeAt Go.RowKit

open Go.Sx.M

/-- SplitFiner: the call, from a run of the calculus. -/
theorem splitFiner_call {C9 : Sx.Call} (hC : COK Try.prog false C9) (a : Int) (b0 : BitVec 64) (b1 : BitVec 64) {hs : List Hint} (h : C9 8 [.int .i64 a, .agg [.w64 b0, .w64 b1]] [] hs isTrue) (w : World) :
    Calls Try.prog 8 #[.int .i64 a, .agg #[.int .u64 (b0.toNat : Int), .int .u64 (b1.toNat : Int)]] w fun e w' => e = .returned (.bool true) ∧ Below w.heap.size w w' :=
  calls_true hC h (fun _ hp => by simp [Sx.globs] at hp) (vs := [.int .i64 a, .agg #[.int .u64 (b0.toNat : Int), .int .u64 (b1.toNat : Int)]]) (.cons (.int _ _) (.cons (.agg (.cons (.w64 _) (.cons (.w64 _) (.nil)))) (.nil))) noNG Try.func8 (by kernel_rfl)

set_option maxRecDepth 100000 in
theorem splitFiner_lifted (walk : ∀ (a : Int) (b0 : BitVec 64) (b1 : BitVec 64) (w : World), Calls Try.prog 8 #[.int .i64 a, .agg #[.int .u64 (b0.toNat : Int), .int .u64 (b1.toNat : Int)]] w fun e w' => e = .returned (.bool true) ∧ Below w.heap.size w w')
    (os : Os) (started : os.Started) (H : Type) (enc : TypeId × Value → H) :
    ReturnsInHanded {} Try.checked os 8 .any (Rows.splitFinerSpec.pre6 enc Try.prog Try.f8 Rows.splitFinerRow.domain false) (Rows.splitFinerSpec.post enc Try.prog Try.f8 false true false false) := by
  refine returnsInHanded_of_change (C := Try.checked) own started (by kernel_rfl) Try.func8
    (ChangeSpec.witness6 (enc := enc) (C := Try.checked) false ⟨#[], #[.int .i64 0, .agg #[.int .u64 0, .int .u64 0]], []⟩ 8 (by kernel_rfl) (by kernel_rfl) (by kernel_rfl) (by kernel_rfl)) ?_
  intro W base args ds gs before hval0 hW hcnd _
  have hval : ∀ (j : Nat) t v, Try.f8.params[j]? = some t → args[j]? = some v → Value.okWide Try.prog W .any base t v := hval0
  have hW' := hW
  obtain ⟨p, q, hA0, hV, rfl, hfz, hnd⟩ := hW
  have hA : DataW.TrodAll enc Try.prog W 0 (fun _ => true) true Try.f8.params.toList args.toList ds p := hA0
  rw [Try.params8] at hA hval
  obtain ⟨v0, vs0, d0, ds0, p0, q0, hargs, rfl, rfl, h0, r0⟩ := trodAll_cons hA
  obtain ⟨v1, vs1, d1, ds1, p1, q1, rfl, rfl, rfl, h1, r1⟩ := trodAll_cons r0
  obtain ⟨rfl, rfl, rfl⟩ := trodAll_nil r1
  obtain rfl : args = #[v0, v1] := by cases args; simp_all
  obtain ⟨rfl, rfl⟩ := trodVars_none hV
  have k0 := h0
  have lt0 : ∀ x ∈ p0, x.block < W.heap.size := by obtain ⟨m, hm⟩ := k0; exact DataW.trod_lt m _ _ _ hm
  have k1 := h1
  have lt1 : ∀ x ∈ p1, x.block < W.heap.size := by obtain ⟨m, hm⟩ := k1; exact DataW.trod_lt m _ _ _ hm
  obtain ⟨a, rfl, rfl, rfl, w0⟩ := open_int (k := .i64) (by kernel_rfl) (hval 0 3 v0 rfl rfl) h0
  obtain ⟨l1, rfl⟩ := open_agg (by kernel_rfl) (hval 1 24 v1 rfl rfl)
  have g1_s : fitsAll [.int .u64, .int .u64] l1 := by have e := open_flat (D := 9) (ks := [.int .u64, .int .u64]) (v := .agg l1.toArray) (by kernel_rfl) (hval 1 24 _ rfl rfl) h1; simpa [Value.cells] using e
  obtain ⟨x1_0, l1_0, rfl, f1_0, g1_0⟩ := fits_cons g1_s
  obtain ⟨b0, rfl⟩ := fits_u64 f1_0
  obtain ⟨x1_1, l1_1, rfl, f1_1, g1_1⟩ := fits_cons g1_0
  obtain ⟨b1, rfl⟩ := fits_u64 f1_1
  obtain rfl := fits_nil g1_1
  clear hA0 hval0
  refine (walk a b0 b1 W).mono fun e W' ⟨he, bel⟩ => ?_
  subst he
  exact ⟨_, rfl, _, _, _, [], _, [], hW', trodAll_mk1 (shut_bool Try.underlying4 _), (trodAll_cons_mk (Below.trod laidOut (by kernel_rfl) (of_decide_eq_true (by kernel_rfl)) k0 bel lt0) (trodAll_cons_mk (Below.trod laidOut (by kernel_rfl) (of_decide_eq_true (by kernel_rfl)) k1 bel lt1) trodAll_mk0)), rfl, bel.frame _, fun h => by cases h⟩

theorem splitFiner_of (walk : ∀ (a : Int) (b0 : BitVec 64) (b1 : BitVec 64) (w : World), Calls Try.prog 8 #[.int .i64 a, .agg #[.int .u64 (b0.toNat : Int), .int .u64 (b1.toNat : Int)]] w fun e w' => e = .returned (.bool true) ∧ Below w.heap.size w w') : Rows.SplitFinerSaid :=
  OpenClaim.holds_of_wide 8 Try.f8 rfl rfl rfl rfl rfl rfl rfl ⟨rfl, rfl, rfl, rfl, rfl⟩ rfl rfl rfl rfl rfl (by kernel_rfl) Try.func8 (by kernel_rfl)
    (of_decide_eq_true (by kernel_rfl)) (by unfold Func.isWrapper; first | (rw [if_pos (by decide +kernel)]; kernel_rfl) | (rw [if_neg (by decide +kernel)]; exact ⟨rfl, rfl⟩))
    (fun os started H enc _ => splitFiner_lifted walk os started H enc)

end Go.Proofs.Ythfgocpejlhanaa.L1
