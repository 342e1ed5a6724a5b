/-
  The law DiffTables: its frame.
-/
import Derived.Test.YtnjbgbdcbejciaaL11a
import Derived.WalkKit
import Derived.ProofKit
import Derived.OpenShut
import Derived.ShutString
import Derived.ChangeOld
import Derived.Below
namespace Go.Proofs.Ytnjbgbdcbejciaa.L1
open Go.Sx
open Go.ChangeShapes Go.WideShapes Go.ChangeAt Go.RowKit

open Go.Sx.M

/-- DiffTables: the call, from a run of the calculus. -/
theorem diffTables_call {C : Sx.Call} (hC : COK Try.prog false C) (A : List Ro) (va : Value) (B : List Ro) (vb : Value) (c : Int) (d0 : BitVec 64) (d1 : BitVec 64) {hs : List Hint} (h : C 9 [.vsl 0 0 (A.map roE).length, .vsl 1 0 (B.map roE).length, .int .i64 c, .agg [.w64 d0, .w64 d1]] [some ⟨false, 73, 4, true, A.map roE⟩, some ⟨false, 73, 4, true, B.map roE⟩] hs isTrue) (w : World) {ρ : List Sx.Loc} (hR : RowsR w ρ [some ⟨false, 73, 4, true, A.map roE⟩, some ⟨false, 73, 4, true, B.map roE⟩]) (hva : AVR ρ (.vsl 0 0 (A.map roE).length) va) (hvb : AVR ρ (.vsl 1 0 (B.map roE).length) vb) :
    Calls Try.prog 9 #[va, vb, .int .i64 c, .agg #[.int .u64 (d0.toNat : Int), .int .u64 (d1.toNat : Int)]] w fun e w' => e = .returned (.bool true) ∧ Below w.heap.size w w' :=
  calls_trueR hC h (fun _ hp => by simp [Sx.globs] at hp) hR (vs := [va, vb, .int .i64 c, .agg #[.int .u64 (d0.toNat : Int), .int .u64 (d1.toNat : Int)]]) (.cons (hva) (.cons (hvb) (.cons (.int _ _) (.cons (.agg (.cons (.w64 _) (.cons (.w64 _) (.nil)))) (.nil))))) noNG Try.func9 (by kernel_rfl)

set_option maxRecDepth 100000 in
theorem diffTables_lifted (walk : ∀ (A : List Ro) (_ : A.length ≤ maxLen) (va : Value) (B : List Ro) (_ : B.length ≤ maxLen) (vb : Value) (c : Int) (d0 : BitVec 64) (d1 : BitVec 64) (w : World) (ρ : List Sx.Loc) (_ : RowsR w ρ [some ⟨false, 73, 4, true, A.map roE⟩, some ⟨false, 73, 4, true, B.map roE⟩]) (_ : AVR ρ (.vsl 0 0 (A.map roE).length) va) (_ : AVR ρ (.vsl 1 0 (B.map roE).length) vb), Calls Try.prog 9 #[va, vb, .int .i64 c, .agg #[.int .u64 (d0.toNat : Int), .int .u64 (d1.toNat : Int)]] w fun e w' => e = .returned (.bool true) ∧ Below w.heap.size w w')
    (os : Os) (started : os.Started) (H : Type) (enc : TypeId × Value → H) :
    ReturnsInHanded {} Try.checked os 9 .any (Rows.diffTablesSpec.pre6 enc Try.prog Try.f9 Rows.diffTablesRow.domain false) (Rows.diffTablesSpec.post enc Try.prog Try.f9 false true false false) := by
  refine returnsInHanded_of_change (C := Try.checked) own started (by kernel_rfl) Try.func9
    (ChangeSpec.witness6 (enc := enc) (C := Try.checked) false ⟨#[], #[.slice none 0 0, .slice none 0 0, .int .i64 0, .agg #[.int .u64 0, .int .u64 0]], []⟩ 8 (by kernel_rfl) (by kernel_rfl) (by kernel_rfl) (by kernel_rfl)) ?_
  intro W base args ds gs before hval0 hW hcnd _
  have hval : ∀ (j : Nat) t v, Try.f9.params[j]? = some t → args[j]? = some v → Value.okWide Try.prog W .any base t v := hval0
  have hW' := hW
  obtain ⟨p, q, hA0, hV, rfl, hfz, hnd⟩ := hW
  have hA : DataW.TrodAll enc Try.prog W 0 (fun _ => true) true Try.f9.params.toList args.toList ds p := hA0
  rw [Try.params9] at hA hval
  obtain ⟨v0, vs0, d0, ds0, p0, q0, hargs, rfl, rfl, h0, r0⟩ := trodAll_cons hA
  obtain ⟨v1, vs1, d1, ds1, p1, q1, rfl, rfl, rfl, h1, r1⟩ := trodAll_cons r0
  obtain ⟨v2, vs2, d2, ds2, p2, q2, rfl, rfl, rfl, h2, r2⟩ := trodAll_cons r1
  obtain ⟨v3, vs3, d3, ds3, p3, q3, rfl, rfl, rfl, h3, r3⟩ := trodAll_cons r2
  obtain ⟨rfl, rfl, rfl⟩ := trodAll_nil r3
  obtain rfl : args = #[v0, v1, v2, v3] := by cases args; simp_all
  obtain ⟨rfl, rfl⟩ := trodVars_none hV
  have k0 := h0
  have lt0 : ∀ x ∈ p0, x.block < W.heap.size := by obtain ⟨m, hm⟩ := k0; exact DataW.trod_lt m _ _ _ hm
  have k1 := h1
  have lt1 : ∀ x ∈ p1, x.block < W.heap.size := by obtain ⟨m, hm⟩ := k1; exact DataW.trod_lt m _ _ _ hm
  have k2 := h2
  have lt2 : ∀ x ∈ p2, x.block < W.heap.size := by obtain ⟨m, hm⟩ := k2; exact DataW.trod_lt m _ _ _ hm
  have k3 := h3
  have lt3 : ∀ x ∈ p3, x.block < W.heap.size := by obtain ⟨m, hm⟩ := k3; exact DataW.trod_lt m _ _ _ hm
  obtain ⟨loc0, L0, hl0, hv0, hb0⟩ := open_row roE (D := 9) (ks := [.int .u64, .int .u64, .int .i64, .int .i64]) Try.underlying22 (by kernel_rfl) (by kernel_rfl) Ro_dec (hval 0 _ v0 rfl rfl) h0 73
  obtain ⟨loc1, L1, hl1, hv1, hb1⟩ := open_row roE (D := 9) (ks := [.int .u64, .int .u64, .int .i64, .int .i64]) Try.underlying22 (by kernel_rfl) (by kernel_rfl) Ro_dec (hval 1 _ v1 rfl rfl) h1 73
  obtain ⟨c, rfl, rfl, rfl, w2⟩ := open_int (k := .i64) (by kernel_rfl) (hval 2 3 v2 rfl rfl) h2
  obtain ⟨l3, rfl⟩ := open_agg (by kernel_rfl) (hval 3 25 v3 rfl rfl)
  have g3_s : fitsAll [.int .u64, .int .u64] l3 := by have e := open_flat (D := 9) (ks := [.int .u64, .int .u64]) (v := .agg l3.toArray) (by kernel_rfl) (hval 3 25 _ rfl rfl) h3; simpa [Value.cells] using e
  obtain ⟨x3_0, l3_0, rfl, f3_0, g3_0⟩ := fits_cons g3_s
  obtain ⟨d0, rfl⟩ := fits_u64 f3_0
  obtain ⟨x3_1, l3_1, rfl, f3_1, g3_1⟩ := fits_cons g3_0
  obtain ⟨d1, rfl⟩ := fits_u64 f3_1
  obtain rfl := fits_nil g3_1
  clear hA0 hval0
  refine (walk L0 hl0 v0 L1 hl1 v1 c d0 d1 W [loc0, loc1] (RowsR.cons (hz := Nat.succ_ne_zero _) (RowsR.cons (hz := Nat.succ_ne_zero _) RowsR.nil rfl hb1) rfl hb0) (hv0 _ 0 rfl) (hv1 _ 1 rfl)).mono fun e W' ⟨he, bel⟩ => ?_
  subst he
  exact ⟨_, rfl, _, _, _, [], _, [], hW', trodAll_mk1 (shut_bool Try.underlying4 _), (trodAll_cons_mk (Below.trod laidOut (by kernel_rfl) (of_decide_eq_true (by kernel_rfl)) k0 bel lt0) (trodAll_cons_mk (Below.trod laidOut (by kernel_rfl) (of_decide_eq_true (by kernel_rfl)) k1 bel lt1) (trodAll_cons_mk (Below.trod laidOut (by kernel_rfl) (of_decide_eq_true (by kernel_rfl)) k2 bel lt2) (trodAll_cons_mk (Below.trod laidOut (by kernel_rfl) (of_decide_eq_true (by kernel_rfl)) k3 bel lt3) trodAll_mk0)))), rfl, bel.frame _, fun h => by cases h⟩

theorem diffTables_of (walk : ∀ (A : List Ro) (_ : A.length ≤ maxLen) (va : Value) (B : List Ro) (_ : B.length ≤ maxLen) (vb : Value) (c : Int) (d0 : BitVec 64) (d1 : BitVec 64) (w : World) (ρ : List Sx.Loc) (_ : RowsR w ρ [some ⟨false, 73, 4, true, A.map roE⟩, some ⟨false, 73, 4, true, B.map roE⟩]) (_ : AVR ρ (.vsl 0 0 (A.map roE).length) va) (_ : AVR ρ (.vsl 1 0 (B.map roE).length) vb), Calls Try.prog 9 #[va, vb, .int .i64 c, .agg #[.int .u64 (d0.toNat : Int), .int .u64 (d1.toNat : Int)]] w fun e w' => e = .returned (.bool true) ∧ Below w.heap.size w w') : Rows.DiffTablesSaid :=
  OpenClaim.holds_of_wide 9 Try.f9 rfl rfl rfl rfl rfl rfl rfl ⟨rfl, rfl, rfl, rfl, rfl⟩ rfl rfl rfl rfl rfl (by kernel_rfl) Try.func9 (by kernel_rfl)
    (of_decide_eq_true (by kernel_rfl)) (by unfold Func.isWrapper; first | (rw [if_pos (by decide +kernel)]; kernel_rfl) | (rw [if_neg (by decide +kernel)]; exact ⟨rfl, rfl⟩))
    (fun os started H enc _ => diffTables_lifted walk os started H enc)

end Go.Proofs.Ytnjbgbdcbejciaa.L1
