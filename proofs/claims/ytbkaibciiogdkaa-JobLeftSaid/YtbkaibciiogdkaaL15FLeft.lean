/-
  The law JobLeft: its frame.
-/
import Derived.Test.YtbkaibciiogdkaaL15a
import Derived.WalkKit
import Derived.ProofKit
import Derived.OpenShut
import Derived.ShutString
import Derived.ChangeOld
import Derived.Below
namespace Go.Proofs.Ytbkaibciiogdkaa.L1
open Go.Sx
open Go.ChangeShapes Go.WideShapes Go.ChangeAt Go.RowKit

open Go.Sx.M

/-- JobLeft: the call, from a run of the calculus. -/
theorem jobLeft_call {C9 : Sx.Call} (hC : COK Try.prog false C9) (A : List Mv) (va : Value) (b : Int) {hs : List Hint} (h : C9 8 [.vsl 0 0 (A.map mvE).length, .int .u8 b] [some ⟨false, 39, 9, true, A.map mvE⟩] hs isTrue) (w : World) {ρ : List Sx.Loc} (hR : RowsR w ρ [some ⟨false, 39, 9, true, A.map mvE⟩]) (hva : AVR ρ (.vsl 0 0 (A.map mvE).length) va) :
    Calls Try.prog 8 #[va, .int .u8 b] w fun e w' => e = .returned (.bool true) ∧ Below w.heap.size w w' :=
  calls_trueR hC h (fun _ hp => by simp [Sx.globs] at hp) hR (vs := [va, .int .u8 b]) (.cons (hva) (.cons (.int _ _) (.nil))) noNG Try.func8 (by kernel_rfl)

set_option maxRecDepth 100000 in
theorem jobLeft_lifted (walk : ∀ (A : List Mv) (_ : A.length ≤ maxLen) (va : Value) (b : Int) (_ : (Lit.int .u8 b).wf = true) (w : World) (ρ : List Sx.Loc) (_ : RowsR w ρ [some ⟨false, 39, 9, true, A.map mvE⟩]) (_ : AVR ρ (.vsl 0 0 (A.map mvE).length) va), Calls Try.prog 8 #[va, .int .u8 b] w fun e w' => e = .returned (.bool true) ∧ Below w.heap.size w w')
    (os : Os) (started : os.Started) (H : Type) (enc : TypeId × Value → H) :
    ReturnsInHanded {} Try.checked os 8 .any (Rows.jobLeftSpec.pre6 enc Try.prog Try.f8 Rows.jobLeftRow.domain false) (Rows.jobLeftSpec.post enc Try.prog Try.f8 false true false false) := by
  refine returnsInHanded_of_change (C := Try.checked) own started (by kernel_rfl) Try.func8
    (ChangeSpec.witness6 (enc := enc) (C := Try.checked) false ⟨#[], #[.slice none 0 0, .int .u8 0], []⟩ 8 (by kernel_rfl) (by kernel_rfl) (by kernel_rfl) (by kernel_rfl)) ?_
  intro W base args ds gs before hval0 hW hcnd _
  have hval : ∀ (j : Nat) t v, Try.f8.params[j]? = some t → args[j]? = some v → Value.okWide Try.prog W .any base t v := hval0
  have hW' := hW
  obtain ⟨p, q, hA0, hV, rfl, hfz, hnd⟩ := hW
  have hA : DataW.TrodAll enc Try.prog W 0 (fun _ => true) true Try.f8.params.toList args.toList ds p := hA0
  rw [Try.params8] at hA hval
  obtain ⟨v0, vs0, d0, ds0, p0, q0, hargs, rfl, rfl, h0, r0⟩ := trodAll_cons hA
  obtain ⟨v1, vs1, d1, ds1, p1, q1, rfl, rfl, rfl, h1, r1⟩ := trodAll_cons r0
  obtain ⟨rfl, rfl, rfl⟩ := trodAll_nil r1
  obtain rfl : args = #[v0, v1] := by cases args; simp_all
  obtain ⟨rfl, rfl⟩ := trodVars_none hV
  have k0 := h0
  have lt0 : ∀ x ∈ p0, x.block < W.heap.size := by obtain ⟨m, hm⟩ := k0; exact DataW.trod_lt m _ _ _ hm
  have k1 := h1
  have lt1 : ∀ x ∈ p1, x.block < W.heap.size := by obtain ⟨m, hm⟩ := k1; exact DataW.trod_lt m _ _ _ hm
  obtain ⟨loc0, L0, hl0, hv0, hb0⟩ := open_row mvE (D := 9) (ks := [.int .i64, .int .i64, .bool, .int .u64, .int .u64, .int .u64, .int .u64, .int .i64, .int .i64]) Try.underlying22 (by kernel_rfl) (by kernel_rfl) Mv_dec (hval 0 _ v0 rfl rfl) h0 39
  obtain ⟨b, rfl, rfl, rfl, w1⟩ := open_int (k := .u8) (by kernel_rfl) (hval 1 5 v1 rfl rfl) h1
  clear hA0 hval0
  refine (walk L0 hl0 v0 b w1 W [loc0] (RowsR.cons (hz := Nat.succ_ne_zero _) RowsR.nil rfl hb0) (hv0 _ 0 rfl)).mono fun e W' ⟨he, bel⟩ => ?_
  subst he
  exact ⟨_, rfl, _, _, _, [], _, [], hW', trodAll_mk1 (shut_bool Try.underlying4 _), (trodAll_cons_mk (Below.trod laidOut (by kernel_rfl) (of_decide_eq_true (by kernel_rfl)) k0 bel lt0) (trodAll_cons_mk (Below.trod laidOut (by kernel_rfl) (of_decide_eq_true (by kernel_rfl)) k1 bel lt1) trodAll_mk0)), rfl, bel.frame _, fun h => by cases h⟩

theorem jobLeft_of (walk : ∀ (A : List Mv) (_ : A.length ≤ maxLen) (va : Value) (b : Int) (_ : (Lit.int .u8 b).wf = true) (w : World) (ρ : List Sx.Loc) (_ : RowsR w ρ [some ⟨false, 39, 9, true, A.map mvE⟩]) (_ : AVR ρ (.vsl 0 0 (A.map mvE).length) va), Calls Try.prog 8 #[va, .int .u8 b] w fun e w' => e = .returned (.bool true) ∧ Below w.heap.size w w') : Rows.JobLeftSaid :=
  OpenClaim.holds_of_wide 8 Try.f8 rfl rfl rfl rfl rfl rfl rfl ⟨rfl, rfl, rfl, rfl, rfl⟩ rfl rfl rfl rfl rfl (by kernel_rfl) Try.func8 (by kernel_rfl)
    (of_decide_eq_true (by kernel_rfl)) (by unfold Func.isWrapper; first | (rw [if_pos (by decide +kernel)]; kernel_rfl) | (rw [if_neg (by decide +kernel)]; exact ⟨rfl, rfl⟩))
    (fun os started H enc _ => jobLeft_lifted walk os started H enc)

end Go.Proofs.Ytbkaibciiogdkaa.L1
