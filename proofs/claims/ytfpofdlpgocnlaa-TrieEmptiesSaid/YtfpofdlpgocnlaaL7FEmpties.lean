/-
  The law TrieEmpties: its frame.
-/
import Derived.Test.YtfpofdlpgocnlaaL7a
import Derived.WalkKit
import Derived.ProofKit
import Derived.OpenShut
import Derived.ShutString
import Derived.ChangeOld
import Derived.Below
namespace Go.Proofs.Ytfpofdlpgocnlaa.L1
open Go.Sx
open Go.ChangeShapes Go.WideShapes Go.ChangeAt Go.RowKit

open Go.Sx.M

/-- TrieEmpties: the call, from a run of the calculus. -/
theorem trieEmpties_call {C : Sx.Call} (hC : COK Try.prog false C) (a : Int) (B : List OpR) (vb : Value) (c : Bool) {hs : List Hint} (h : C 6 [.int .i64 a, .vsl 0 0 (B.map opE).length, .bool c] [some ⟨false, 74, 5, true, B.map opE⟩] hs isTrue) (w : World) {ρ : List Sx.Loc} (hR : RowsR w ρ [some ⟨false, 74, 5, true, B.map opE⟩]) (hvb : AVR ρ (.vsl 0 0 (B.map opE).length) vb) :
    Calls Try.prog 6 #[.int .i64 a, vb, .bool c] w fun e w' => e = .returned (.bool true) ∧ Below w.heap.size w w' :=
  calls_trueR hC h (fun _ hp => by simp [Sx.globs] at hp) hR (vs := [.int .i64 a, vb, .bool c]) (.cons (.int _ _) (.cons (hvb) (.cons (.bool _) (.nil)))) noNG Try.func6 (by kernel_rfl)

set_option maxRecDepth 100000 in
theorem trieEmpties_lifted (walk : ∀ (a : Int) (B : List OpR) (_ : B.length ≤ maxLen) (vb : Value) (c : Bool) (w : World) (ρ : List Sx.Loc) (_ : RowsR w ρ [some ⟨false, 74, 5, true, B.map opE⟩]) (_ : AVR ρ (.vsl 0 0 (B.map opE).length) vb), Calls Try.prog 6 #[.int .i64 a, vb, .bool c] w fun e w' => e = .returned (.bool true) ∧ Below w.heap.size w w')
    (os : Os) (started : os.Started) (H : Type) (enc : TypeId × Value → H) :
    ReturnsInHanded {} Try.checked os 6 .any (Rows.trieEmptiesSpec.pre6 enc Try.prog Try.f6 Rows.trieEmptiesRow.domain false) (Rows.trieEmptiesSpec.post enc Try.prog Try.f6 false true false false) := by
  refine returnsInHanded_of_change (C := Try.checked) own started (by kernel_rfl) Try.func6
    (ChangeSpec.witness6 (enc := enc) (C := Try.checked) false ⟨#[], #[.int .i64 0, .slice none 0 0, .bool false], []⟩ 8 (by kernel_rfl) (by kernel_rfl) (by kernel_rfl) (by kernel_rfl)) ?_
  intro W base args ds gs before hval0 hW hcnd _
  have hval : ∀ (j : Nat) t v, Try.f6.params[j]? = some t → args[j]? = some v → Value.okWide Try.prog W .any base t v := hval0
  have hW' := hW
  obtain ⟨p, q, hA0, hV, rfl, hfz, hnd⟩ := hW
  have hA : DataW.TrodAll enc Try.prog W 0 (fun _ => true) true Try.f6.params.toList args.toList ds p := hA0
  rw [Try.params6] at hA hval
  obtain ⟨v0, vs0, d0, ds0, p0, q0, hargs, rfl, rfl, h0, r0⟩ := trodAll_cons hA
  obtain ⟨v1, vs1, d1, ds1, p1, q1, rfl, rfl, rfl, h1, r1⟩ := trodAll_cons r0
  obtain ⟨v2, vs2, d2, ds2, p2, q2, rfl, rfl, rfl, h2, r2⟩ := trodAll_cons r1
  obtain ⟨rfl, rfl, rfl⟩ := trodAll_nil r2
  obtain rfl : args = #[v0, v1, v2] := by cases args; simp_all
  obtain ⟨rfl, rfl⟩ := trodVars_none hV
  have k0 := h0
  have lt0 : ∀ x ∈ p0, x.block < W.heap.size := by obtain ⟨m, hm⟩ := k0; exact DataW.trod_lt m _ _ _ hm
  have k1 := h1
  have lt1 : ∀ x ∈ p1, x.block < W.heap.size := by obtain ⟨m, hm⟩ := k1; exact DataW.trod_lt m _ _ _ hm
  have k2 := h2
  have lt2 : ∀ x ∈ p2, x.block < W.heap.size := by obtain ⟨m, hm⟩ := k2; exact DataW.trod_lt m _ _ _ hm
  obtain ⟨a, rfl, rfl, rfl, w0⟩ := open_int (k := .i64) (by kernel_rfl) (hval 0 3 v0 rfl rfl) h0
  obtain ⟨loc1, L1, hl1, hv1, hb1⟩ := open_row opE (D := 9) (ks := [.int .i64, .int .u64, .int .u64, .int .i64, .int .i64]) Try.underlying22 (by kernel_rfl) (by kernel_rfl) OpR_dec (hval 1 _ v1 rfl rfl) h1 74
  obtain ⟨c, rfl, rfl, rfl⟩ := open_bool (by kernel_rfl) (hval 2 4 v2 rfl rfl) h2
  clear hA0 hval0
  refine (walk a L1 hl1 v1 c W [loc1] (RowsR.cons (hz := Nat.succ_ne_zero _) RowsR.nil rfl hb1) (hv1 _ 0 rfl)).mono fun e W' ⟨he, bel⟩ => ?_
  subst he
  exact ⟨_, rfl, _, _, _, [], _, [], hW', trodAll_mk1 (shut_bool Try.underlying4 _), (trodAll_cons_mk (Below.trod laidOut (by kernel_rfl) (of_decide_eq_true (by kernel_rfl)) k0 bel lt0) (trodAll_cons_mk (Below.trod laidOut (by kernel_rfl) (of_decide_eq_true (by kernel_rfl)) k1 bel lt1) (trodAll_cons_mk (Below.trod laidOut (by kernel_rfl) (of_decide_eq_true (by kernel_rfl)) k2 bel lt2) trodAll_mk0))), rfl, bel.frame _, fun h => by cases h⟩

theorem trieEmpties_of (walk : ∀ (a : Int) (B : List OpR) (_ : B.length ≤ maxLen) (vb : Value) (c : Bool) (w : World) (ρ : List Sx.Loc) (_ : RowsR w ρ [some ⟨false, 74, 5, true, B.map opE⟩]) (_ : AVR ρ (.vsl 0 0 (B.map opE).length) vb), Calls Try.prog 6 #[.int .i64 a, vb, .bool c] w fun e w' => e = .returned (.bool true) ∧ Below w.heap.size w w') : Rows.TrieEmptiesSaid :=
  OpenClaim.holds_of_wide 6 Try.f6 rfl rfl rfl rfl rfl rfl rfl ⟨rfl, rfl, rfl, rfl, rfl⟩ rfl rfl rfl rfl rfl (by kernel_rfl) Try.func6 (by kernel_rfl)
    (of_decide_eq_true (by kernel_rfl)) (by unfold Func.isWrapper; first | (rw [if_pos (by decide +kernel)]; kernel_rfl) | (rw [if_neg (by decide +kernel)]; exact ⟨rfl, rfl⟩))
    (fun os started H enc _ => trieEmpties_lifted walk os started H enc)

end Go.Proofs.Ytfpofdlpgocnlaa.L1
