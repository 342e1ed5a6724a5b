/-
  The law WordFree: its frame.
-/
import Derived.Test.YthhckkollnnfeaaL1Base
import Derived.WalkKit
import Derived.ProofKit
import Derived.OpenShut
import Derived.ShutString
import Derived.ChangeOld
import Derived.Below
namespace Go.Proofs.Ythhckkollnnfeaa.L1
open Go.Sx
open Go.ChangeShapes Go.WideShapes Go.ChangeAt Go.RowKit

/-- WordFree: the call, from a run of the calculus. -/
theorem wordFree_call {C : Sx.Call} (hC : COK Try.prog false C) (a0 : BitVec 64) (a1 : BitVec 64) (a2 : BitVec 64) (a3 : BitVec 64) (b : Int) (c : Int) {hs : List Hint} (h : C 9 [.agg [.w64 a0, .w64 a1, .w64 a2, .w64 a3], .int .i64 b, .int .i64 c] [] hs isTrue) (w : World) :
    Calls Try.prog 9 #[.agg #[.int .u64 (a0.toNat : Int), .int .u64 (a1.toNat : Int), .int .u64 (a2.toNat : Int), .int .u64 (a3.toNat : Int)], .int .i64 b, .int .i64 c] w fun e w' => e = .returned (.bool true) ∧ Below w.heap.size w w' :=
  calls_true hC h (fun _ hp => by simp [Sx.globs] at hp) (vs := [.agg #[.int .u64 (a0.toNat : Int), .int .u64 (a1.toNat : Int), .int .u64 (a2.toNat : Int), .int .u64 (a3.toNat : Int)], .int .i64 b, .int .i64 c]) (.cons (.agg (.cons (.w64 _) (.cons (.w64 _) (.cons (.w64 _) (.cons (.w64 _) (.nil)))))) (.cons (.int _ _) (.cons (.int _ _) (.nil)))) noNG Try.func9 (by kernel_rfl)

set_option maxRecDepth 100000 in
theorem wordFree_lifted (walk : ∀ (a0 : BitVec 64) (a1 : BitVec 64) (a2 : BitVec 64) (a3 : BitVec 64) (b : Int) (c : Int) (w : World), Calls Try.prog 9 #[.agg #[.int .u64 (a0.toNat : Int), .int .u64 (a1.toNat : Int), .int .u64 (a2.toNat : Int), .int .u64 (a3.toNat : Int)], .int .i64 b, .int .i64 c] w fun e w' => e = .returned (.bool true) ∧ Below w.heap.size w w')
    (os : Os) (started : os.Started) (H : Type) (enc : TypeId × Value → H) :
    ReturnsInHanded {} Try.checked os 9 .any (Rows.wordFreeSpec.pre6 enc Try.prog Try.f9 Rows.wordFreeRow.domain false) (Rows.wordFreeSpec.post enc Try.prog Try.f9 false true false false) := by
  refine returnsInHanded_of_change (C := Try.checked) own started (by kernel_rfl) Try.func9
    (ChangeSpec.witness6 (enc := enc) (C := Try.checked) false ⟨#[], #[.agg #[.int .u64 0, .int .u64 0, .int .u64 0, .int .u64 0], .int .i64 0, .int .i64 0], []⟩ 8 (by kernel_rfl) (by kernel_rfl) (by kernel_rfl) (by kernel_rfl)) ?_
  intro W base args ds gs before hval0 hW hcnd _
  have hval : ∀ (j : Nat) t v, Try.f9.params[j]? = some t → args[j]? = some v → Value.okWide Try.prog W .any base t v := hval0
  have hW' := hW
  obtain ⟨p, q, hA0, hV, rfl, hfz, hnd⟩ := hW
  have hA : DataW.TrodAll enc Try.prog W 0 (fun _ => true) true Try.f9.params.toList args.toList ds p := hA0
  rw [Try.params9] at hA hval
  obtain ⟨v0, vs0, d0, ds0, p0, q0, hargs, rfl, rfl, h0, r0⟩ := trodAll_cons hA
  obtain ⟨v1, vs1, d1, ds1, p1, q1, rfl, rfl, rfl, h1, r1⟩ := trodAll_cons r0
  obtain ⟨v2, vs2, d2, ds2, p2, q2, rfl, rfl, rfl, h2, r2⟩ := trodAll_cons r1
  obtain ⟨rfl, rfl, rfl⟩ := trodAll_nil r2
  obtain rfl : args = #[v0, v1, v2] := by cases args; simp_all
  obtain ⟨rfl, rfl⟩ := trodVars_none hV
  have k0 := h0
  have lt0 : ∀ x ∈ p0, x.block < W.heap.size := by obtain ⟨m, hm⟩ := k0; exact DataW.trod_lt m _ _ _ hm
  have k1 := h1
  have lt1 : ∀ x ∈ p1, x.block < W.heap.size := by obtain ⟨m, hm⟩ := k1; exact DataW.trod_lt m _ _ _ hm
  have k2 := h2
  have lt2 : ∀ x ∈ p2, x.block < W.heap.size := by obtain ⟨m, hm⟩ := k2; exact DataW.trod_lt m _ _ _ hm
  obtain ⟨l0, rfl⟩ := open_agg (by kernel_rfl) (hval 0 26 v0 rfl rfl)
  have g0_s : fitsAll [.int .u64, .int .u64, .int .u64, .int .u64] l0 := by have e := open_flat (D := 9) (ks := [.int .u64, .int .u64, .int .u64, .int .u64]) (v := .agg l0.toArray) (by kernel_rfl) (hval 0 26 _ rfl rfl) h0; simpa [Value.cells] using e
  obtain ⟨x0_0, l0_0, rfl, f0_0, g0_0⟩ := fits_cons g0_s
  obtain ⟨a0, rfl⟩ := fits_u64 f0_0
  obtain ⟨x0_1, l0_1, rfl, f0_1, g0_1⟩ := fits_cons g0_0
  obtain ⟨a1, rfl⟩ := fits_u64 f0_1
  obtain ⟨x0_2, l0_2, rfl, f0_2, g0_2⟩ := fits_cons g0_1
  obtain ⟨a2, rfl⟩ := fits_u64 f0_2
  obtain ⟨x0_3, l0_3, rfl, f0_3, g0_3⟩ := fits_cons g0_2
  obtain ⟨a3, rfl⟩ := fits_u64 f0_3
  obtain rfl := fits_nil g0_3
  obtain ⟨b, rfl, rfl, rfl, w1⟩ := open_int (k := .i64) (by kernel_rfl) (hval 1 3 v1 rfl rfl) h1
  obtain ⟨c, rfl, rfl, rfl, w2⟩ := open_int (k := .i64) (by kernel_rfl) (hval 2 3 v2 rfl rfl) h2
  clear hA0 hval0
  refine (walk a0 a1 a2 a3 b c W).mono fun e W' ⟨he, bel⟩ => ?_
  subst he
  exact ⟨_, rfl, _, _, _, [], _, [], hW', trodAll_mk1 (shut_bool Try.underlying4 _), (trodAll_cons_mk (Below.trod laidOut (by kernel_rfl) (of_decide_eq_true (by kernel_rfl)) k0 bel lt0) (trodAll_cons_mk (Below.trod laidOut (by kernel_rfl) (of_decide_eq_true (by kernel_rfl)) k1 bel lt1) (trodAll_cons_mk (Below.trod laidOut (by kernel_rfl) (of_decide_eq_true (by kernel_rfl)) k2 bel lt2) trodAll_mk0))), rfl, bel.frame _, fun h => by cases h⟩

theorem wordFree_of (walk : ∀ (a0 : BitVec 64) (a1 : BitVec 64) (a2 : BitVec 64) (a3 : BitVec 64) (b : Int) (c : Int) (w : World), Calls Try.prog 9 #[.agg #[.int .u64 (a0.toNat : Int), .int .u64 (a1.toNat : Int), .int .u64 (a2.toNat : Int), .int .u64 (a3.toNat : Int)], .int .i64 b, .int .i64 c] w fun e w' => e = .returned (.bool true) ∧ Below w.heap.size w w') : Rows.WordFreeSaid :=
  OpenClaim.holds_of_wide 9 Try.f9 rfl rfl rfl rfl rfl rfl rfl ⟨rfl, rfl, rfl, rfl, rfl⟩ rfl rfl rfl rfl rfl (by kernel_rfl) Try.func9 (by kernel_rfl)
    (of_decide_eq_true (by kernel_rfl)) (by unfold Func.isWrapper; first | (rw [if_pos (by decide +kernel)]; kernel_rfl) | (rw [if_neg (by decide +kernel)]; exact ⟨rfl, rfl⟩))
    (fun os started H enc _ => wordFree_lifted walk os started H enc)

end Go.Proofs.Ythhckkollnnfeaa.L1
