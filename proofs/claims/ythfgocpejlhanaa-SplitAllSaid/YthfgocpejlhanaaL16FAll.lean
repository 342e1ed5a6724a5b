/-
  The law SplitAll: its frame.
-/
import Derived.Test.YthfgocpejlhanaaL5a
import Derived.WalkKit
import Derived.ProofKit
import Derived.OpenShut
import Derived.ShutString
import Derived.ChangeOld
import Derived.Below
namespace Go.Proofs.Ythfgocpejlhanaa.L1
open Go.Sx
open Go.ChangeShapes Go.WideShapes Go.ChangeAt Go.RowKit

open Go.Sx.M

/-- SplitAll: the call, from a run of the calculus. -/
theorem splitAll_call {C9 : Sx.Call} (hC : COK Try.prog false C9) (a : Int) (B : List En) (vb : Value) {hs : List Hint} (h : C9 7 [.int .i64 a, .vsl 0 0 (B.map enE).length] [some ⟨false, 48, 6, true, B.map enE⟩] hs isTrue) (w : World) {ρ : List Sx.Loc} (hR : RowsR w ρ [some ⟨false, 48, 6, true, B.map enE⟩]) (hvb : AVR ρ (.vsl 0 0 (B.map enE).length) vb) :
    Calls Try.prog 7 #[.int .i64 a, vb] w fun e w' => e = .returned (.bool true) ∧ Below w.heap.size w w' :=
  calls_trueR hC h (fun _ hp => by simp [Sx.globs] at hp) hR (vs := [.int .i64 a, vb]) (.cons (.int _ _) (.cons (hvb) (.nil))) noNG Try.func7 (by kernel_rfl)

set_option maxRecDepth 100000 in
theorem splitAll_lifted (walk : ∀ (a : Int) (B : List En) (_ : B.length ≤ maxLen) (vb : Value) (w : World) (ρ : List Sx.Loc) (_ : RowsR w ρ [some ⟨false, 48, 6, true, B.map enE⟩]) (_ : AVR ρ (.vsl 0 0 (B.map enE).length) vb), Calls Try.prog 7 #[.int .i64 a, vb] w fun e w' => e = .returned (.bool true) ∧ Below w.heap.size w w')
    (os : Os) (started : os.Started) (H : Type) (enc : TypeId × Value → H) :
    ReturnsInHanded {} Try.checked os 7 .any (Rows.splitAllSpec.pre6 enc Try.prog Try.f7 Rows.splitAllRow.domain false) (Rows.splitAllSpec.post enc Try.prog Try.f7 false true false false) := by
  refine returnsInHanded_of_change (C := Try.checked) own started (by kernel_rfl) Try.func7
    (ChangeSpec.witness6 (enc := enc) (C := Try.checked) false ⟨#[], #[.int .i64 0, .slice none 0 0], []⟩ 8 (by kernel_rfl) (by kernel_rfl) (by kernel_rfl) (by kernel_rfl)) ?_
  intro W base args ds gs before hval0 hW hcnd _
  have hval : ∀ (j : Nat) t v, Try.f7.params[j]? = some t → args[j]? = some v → Value.okWide Try.prog W .any base t v := hval0
  have hW' := hW
  obtain ⟨p, q, hA0, hV, rfl, hfz, hnd⟩ := hW
  have hA : DataW.TrodAll enc Try.prog W 0 (fun _ => true) true Try.f7.params.toList args.toList ds p := hA0
  rw [Try.params7] at hA hval
  obtain ⟨v0, vs0, d0, ds0, p0, q0, hargs, rfl, rfl, h0, r0⟩ := trodAll_cons hA
  obtain ⟨v1, vs1, d1, ds1, p1, q1, rfl, rfl, rfl, h1, r1⟩ := trodAll_cons r0
  obtain ⟨rfl, rfl, rfl⟩ := trodAll_nil r1
  obtain rfl : args = #[v0, v1] := by cases args; simp_all
  obtain ⟨rfl, rfl⟩ := trodVars_none hV
  have k0 := h0
  have lt0 : ∀ x ∈ p0, x.block < W.heap.size := by obtain ⟨m, hm⟩ := k0; exact DataW.trod_lt m _ _ _ hm
  have k1 := h1
  have lt1 : ∀ x ∈ p1, x.block < W.heap.size := by obtain ⟨m, hm⟩ := k1; exact DataW.trod_lt m _ _ _ hm
  obtain ⟨a, rfl, rfl, rfl, w0⟩ := open_int (k := .i64) (by kernel_rfl) (hval 0 3 v0 rfl rfl) h0
  obtain ⟨loc1, L1, hl1, hv1, hb1⟩ := open_row enE (D := 9) (ks := [.int .u64, .int .u64, .int .u64, .int .u64, .int .i64, .int .i64]) Try.underlying39 (by kernel_rfl) (by kernel_rfl) En_dec (hval 1 _ v1 rfl rfl) h1 48
  clear hA0 hval0
  refine (walk a L1 hl1 v1 W [loc1] (RowsR.cons (hz := Nat.succ_ne_zero _) RowsR.nil rfl hb1) (hv1 _ 0 rfl)).mono fun e W' ⟨he, bel⟩ => ?_
  subst he
  exact ⟨_, rfl, _, _, _, [], _, [], hW', trodAll_mk1 (shut_bool Try.underlying4 _), (trodAll_cons_mk (Below.trod laidOut (by kernel_rfl) (of_decide_eq_true (by kernel_rfl)) k0 bel lt0) (trodAll_cons_mk (Below.trod laidOut (by kernel_rfl) (of_decide_eq_true (by kernel_rfl)) k1 bel lt1) trodAll_mk0)), rfl, bel.frame _, fun h => by cases h⟩

theorem splitAll_of (walk : ∀ (a : Int) (B : List En) (_ : B.length ≤ maxLen) (vb : Value) (w : World) (ρ : List Sx.Loc) (_ : RowsR w ρ [some ⟨false, 48, 6, true, B.map enE⟩]) (_ : AVR ρ (.vsl 0 0 (B.map enE).length) vb), Calls Try.prog 7 #[.int .i64 a, vb] w fun e w' => e = .returned (.bool true) ∧ Below w.heap.size w w') : Rows.SplitAllSaid :=
  OpenClaim.holds_of_wide 7 Try.f7 rfl rfl rfl rfl rfl rfl rfl ⟨rfl, rfl, rfl, rfl, rfl⟩ rfl rfl rfl rfl rfl (by kernel_rfl) Try.func7 (by kernel_rfl)
    (of_decide_eq_true (by kernel_rfl)) (by unfold Func.isWrapper; first | (rw [if_pos (by decide +kernel)]; kernel_rfl) | (rw [if_neg (by decide +kernel)]; exact ⟨rfl, rfl⟩))
    (fun os started H enc _ => splitAll_lifted walk os started H enc)

end Go.Proofs.Ythfgocpejlhanaa.L1
