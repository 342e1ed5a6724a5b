/-
  The law SplitParts: its frame.
-/
import Derived.Test.YthfgocpejlhanaaL5a
import Derived.WalkKit
import Derived.ProofKit
import Derived.OpenShut
import Derived.ShutString
import Derived.ChangeOld
import Derived.Below
namespace Go.Proofs.Ythfgocpejlhanaa.L1
open Go.Sx
open Go.ChangeShapes Go.WideShapes Go.ChangeAt Go.RowKit

open Go.Sx.M

/-- SplitParts: the call, from a run of the calculus. -/
theorem splitParts_call {C9 : Sx.Call} (hC : COK Try.prog false C9) (a : Int) (b : Int) (C : List En) (vc : Value) {hs : List Hint} (h : C9 4 [.int .i64 a, .int .i64 b, .vsl 0 0 (C.map enE).length] [some ⟨false, 48, 6, true, C.map enE⟩] hs isTrue) (w : World) {ρ : List Sx.Loc} (hR : RowsR w ρ [some ⟨false, 48, 6, true, C.map enE⟩]) (hvc : AVR ρ (.vsl 0 0 (C.map enE).length) vc) :
    Calls Try.prog 4 #[.int .i64 a, .int .i64 b, vc] w fun e w' => e = .returned (.bool true) ∧ Below w.heap.size w w' :=
  calls_trueR hC h (fun _ hp => by simp [Sx.globs] at hp) hR (vs := [.int .i64 a, .int .i64 b, vc]) (.cons (.int _ _) (.cons (.int _ _) (.cons (hvc) (.nil)))) noNG Try.func4 (by kernel_rfl)

set_option maxRecDepth 100000 in
theorem splitParts_lifted (walk : ∀ (a : Int) (b : Int) (C : List En) (_ : C.length ≤ maxLen) (vc : Value) (w : World) (ρ : List Sx.Loc) (_ : RowsR w ρ [some ⟨false, 48, 6, true, C.map enE⟩]) (_ : AVR ρ (.vsl 0 0 (C.map enE).length) vc), Calls Try.prog 4 #[.int .i64 a, .int .i64 b, vc] w fun e w' => e = .returned (.bool true) ∧ Below w.heap.size w w')
    (os : Os) (started : os.Started) (H : Type) (enc : TypeId × Value → H) :
    ReturnsInHanded {} Try.checked os 4 .any (Rows.splitPartsSpec.pre6 enc Try.prog Try.f4 Rows.splitPartsRow.domain false) (Rows.splitPartsSpec.post enc Try.prog Try.f4 false true false false) := by
  refine returnsInHanded_of_change (C := Try.checked) own started (by kernel_rfl) Try.func4
    (ChangeSpec.witness6 (enc := enc) (C := Try.checked) false ⟨#[], #[.int .i64 0, .int .i64 0, .slice none 0 0], []⟩ 8 (by kernel_rfl) (by kernel_rfl) (by kernel_rfl) (by kernel_rfl)) ?_
  intro W base args ds gs before hval0 hW hcnd _
  have hval : ∀ (j : Nat) t v, Try.f4.params[j]? = some t → args[j]? = some v → Value.okWide Try.prog W .any base t v := hval0
  have hW' := hW
  obtain ⟨p, q, hA0, hV, rfl, hfz, hnd⟩ := hW
  have hA : DataW.TrodAll enc Try.prog W 0 (fun _ => true) true Try.f4.params.toList args.toList ds p := hA0
  rw [Try.params4] at hA hval
  obtain ⟨v0, vs0, d0, ds0, p0, q0, hargs, rfl, rfl, h0, r0⟩ := trodAll_cons hA
  obtain ⟨v1, vs1, d1, ds1, p1, q1, rfl, rfl, rfl, h1, r1⟩ := trodAll_cons r0
  obtain ⟨v2, vs2, d2, ds2, p2, q2, rfl, rfl, rfl, h2, r2⟩ := trodAll_cons r1
  obtain ⟨rfl, rfl, rfl⟩ := trodAll_nil r2
  obtain rfl : args = #[v0, v1, v2] := by cases args; simp_all
  obtain ⟨rfl, rfl⟩ := trodVars_none hV
  have k0 := h0
  have lt0 : ∀ x ∈ p0, x.block < W.heap.size := by obtain ⟨m, hm⟩ := k0; exact DataW.trod_lt m _ _ _ hm
  have k1 := h1
  have lt1 : ∀ x ∈ p1, x.block < W.heap.size := by obtain ⟨m, hm⟩ := k1; exact DataW.trod_lt m _ _ _ hm
  have k2 := h2
  have lt2 : ∀ x ∈ p2, x.block < W.heap.size := by obtain ⟨m, hm⟩ := k2; exact DataW.trod_lt m _ _ _ hm
  obtain ⟨a, rfl, rfl, rfl, w0⟩ := open_int (k := .i64) (by kernel_rfl) (hval 0 3 v0 rfl rfl) h0
  obtain ⟨b, rfl, rfl, rfl, w1⟩ := open_int (k := .i64) (by kernel_rfl) (hval 1 3 v1 rfl rfl) h1
  obtain ⟨loc2, L2, hl2, hv2, hb2⟩ := open_row enE (D := 9) (ks := [.int .u64, .int .u64, .int .u64, .int .u64, .int .i64, .int .i64]) Try.underlying39 (by kernel_rfl) (by kernel_rfl) En_dec (hval 2 _ v2 rfl rfl) h2 48
  clear hA0 hval0
  refine (walk a b L2 hl2 v2 W [loc2] (RowsR.cons (hz := Nat.succ_ne_zero _) RowsR.nil rfl hb2) (hv2 _ 0 rfl)).mono fun e W' ⟨he, bel⟩ => ?_
  subst he
  exact ⟨_, rfl, _, _, _, [], _, [], hW', trodAll_mk1 (shut_bool Try.underlying4 _), (trodAll_cons_mk (Below.trod laidOut (by kernel_rfl) (of_decide_eq_true (by kernel_rfl)) k0 bel lt0) (trodAll_cons_mk (Below.trod laidOut (by kernel_rfl) (of_decide_eq_true (by kernel_rfl)) k1 bel lt1) (trodAll_cons_mk (Below.trod laidOut (by kernel_rfl) (of_decide_eq_true (by kernel_rfl)) k2 bel lt2) trodAll_mk0))), rfl, bel.frame _, fun h => by cases h⟩

theorem splitParts_of (walk : ∀ (a : Int) (b : Int) (C : List En) (_ : C.length ≤ maxLen) (vc : Value) (w : World) (ρ : List Sx.Loc) (_ : RowsR w ρ [some ⟨false, 48, 6, true, C.map enE⟩]) (_ : AVR ρ (.vsl 0 0 (C.map enE).length) vc), Calls Try.prog 4 #[.int .i64 a, .int .i64 b, vc] w fun e w' => e = .returned (.bool true) ∧ Below w.heap.size w w') : Rows.SplitPartsSaid :=
  OpenClaim.holds_of_wide 4 Try.f4 rfl rfl rfl rfl rfl rfl rfl ⟨rfl, rfl, rfl, rfl, rfl⟩ rfl rfl rfl rfl rfl (by kernel_rfl) Try.func4 (by kernel_rfl)
    (of_decide_eq_true (by kernel_rfl)) (by unfold Func.isWrapper; first | (rw [if_pos (by decide +kernel)]; kernel_rfl) | (rw [if_neg (by decide +kernel)]; exact ⟨rfl, rfl⟩))
    (fun os started H enc _ => splitParts_lifted walk os started H enc)

end Go.Proofs.Ythfgocpejlhanaa.L1
