/-
  The frame of the law WrittenPrefix: from a run of the calculus to the statement.
-/
import Derived.Test.YtkdcajibehpeaaaDoorL3L
import Derived.Test.YtkdcajibehpeaaaDoorCards
import Derived.WalkKit
import Derived.ProofKit
import Derived.OpenShut
import Derived.ShutString
import Derived.ChangeOld
import Derived.ChangeMaps5
import Derived.Below
namespace Go.Proofs.YtkdcajibehpeaaaDoor.L1
open Go.Sx
open Go.ChangeShapes Go.WideShapes Go.ChangeAt Go.RowKit
/-- WrittenPrefix: the call, from a run of the calculus. -/
theorem writtenPrefix_call {C : Sx.Call} (hC : COK Tryd.prog false C) (a : Int) (b0 : BitVec 64) (b1 : BitVec 64) (b2 : Int) {hs : List Hint} (h : C 4 [.int .i64 a, .agg [.w64 b0, .w64 b1, .int .i64 b2]] [] hs isTrue) (w : World) (hG : GlobOK w.heap.size w) :
    Calls Tryd.prog 4 #[.int .i64 a, .agg #[.int .u64 (b0.toNat : Int), .int .u64 (b1.toNat : Int), .int .i64 b2]] w fun e w' => e = .returned (.bool true) ∧ Below w.heap.size w w' :=
  calls_true hC h hG (vs := [.int .i64 a, .agg #[.int .u64 (b0.toNat : Int), .int .u64 (b1.toNat : Int), .int .i64 b2]]) (.cons (.int _ _) (.cons (.agg (.cons (.w64 _) (.cons (.w64 _) (.cons (.int _ _) (.nil))))) (.nil))) noNG Tryd.func4 (by kernel_rfl)

set_option maxRecDepth 100000 in
theorem writtenPrefix_lifted (walk : ∀ (a : Int) (b0 : BitVec 64) (b1 : BitVec 64) (b2 : Int) (w : World), GlobOK w.heap.size w → Calls Tryd.prog 4 #[.int .i64 a, .agg #[.int .u64 (b0.toNat : Int), .int .u64 (b1.toNat : Int), .int .i64 b2]] w fun e w' => e = .returned (.bool true) ∧ Below w.heap.size w w')
    (os : Os) (started : os.Started) (H : Type) (enc : TypeId × Value → H) :
    ReturnsInHanded {} Tryd.checked os 4 .any (fun w args => (Rows.writtenPrefixSpec.pre enc Tryd.prog Tryd.f4 Rows.writtenPrefixRow.domain false w args ∧ laidMetH Tryd.prog Rows.writtenPrefixRow.laid w) ∧ sizedMet enc Tryd.prog Tryd.f4 (OpenSpec.ofChange Rows.writtenPrefixSpec) false w args) (Rows.writtenPrefixSpec.post enc Tryd.prog Tryd.f4 false true false false) := by
  refine returnsInHanded_of_change_and (C := Tryd.checked) (X := fun w _ => laidMetH Tryd.prog Rows.writtenPrefixRow.laid w) (fun _ _ _ hh h => h.of_heap hh) own started (by kernel_rfl) Tryd.func4
    (ChangeSpec.witness_shaped (enc := enc) (C := Tryd.checked) (os := os) (X := fun w _ => laidMetH Tryd.prog Rows.writtenPrefixRow.laid w) false (World.laidAll Tryd.prog os Rows.writtenPrefixRow.laid) #[.int .i64 0, .agg #[.int .u64 0, .int .u64 0, .int .i64 0]] 8 (World.laidAll_os _ _ _)
      (World.shaped_of_ZipB (by kernel_rfl) (by kernel_rfl)) (by kernel_rfl) (by kernel_rfl) (by kernel_rfl)
      (by rw [MakeChecks.laidMetH_plain _ _ _ (by kernel_rfl)]; exact laidMet_laidAll _ (by kernel_rfl) (by kernel_rfl))) ?_
  intro W base args ds gs before hval0 hW hcnd _ hL _
  have hval : ∀ (j : Nat) t v, Tryd.f4.params[j]? = some t → args[j]? = some v → Value.okWide Tryd.prog W .any base t v := hval0
  have hW' := hW
  obtain ⟨p, q, hA0, hV, rfl, hfz, hnd⟩ := hW
  have hA : DataW.TrodAll enc Tryd.prog W 0 (fun _ => true) true Tryd.f4.params.toList args.toList ds p := hA0
  rw [Tryd.params4] at hA hval
  obtain ⟨v0, vs0, d0, ds0, p0, q0, hargs, rfl, rfl, h0, r0⟩ := trodAll_cons hA
  obtain ⟨v1, vs1, d1, ds1, p1, q1, rfl, rfl, rfl, h1, r1⟩ := trodAll_cons r0
  obtain ⟨rfl, rfl, rfl⟩ := trodAll_nil r1
  obtain rfl : args = #[v0, v1] := by cases args; simp_all
  obtain ⟨rfl, rfl⟩ := trodVars_none hV
  have k0 := h0
  have lt0 : ∀ x ∈ p0, x.block < W.heap.size := by obtain ⟨m, hm⟩ := k0; exact DataW.trod_lt m _ _ _ hm
  have k1 := h1
  have lt1 : ∀ x ∈ p1, x.block < W.heap.size := by obtain ⟨m, hm⟩ := k1; exact DataW.trod_lt m _ _ _ hm
  obtain ⟨a, rfl, rfl, rfl, w0⟩ := open_int (k := .i64) (by kernel_rfl) (hval 0 3 v0 rfl rfl) h0
  obtain ⟨l1, rfl⟩ := open_agg (by kernel_rfl) (hval 1 36 v1 rfl rfl)
  have g1_s : fitsAll [.int .u64, .int .u64, .int .i64] l1 := by have e := open_flat (D := 9) (ks := [.int .u64, .int .u64, .int .i64]) (v := .agg l1.toArray) (by kernel_rfl) (hval 1 36 _ rfl rfl) h1; simpa [Value.cells] using e
  obtain ⟨x1_0, l1_0, rfl, f1_0, g1_0⟩ := fits_cons g1_s
  obtain ⟨b0, rfl⟩ := fits_u64 f1_0
  obtain ⟨x1_1, l1_1, rfl, f1_1, g1_1⟩ := fits_cons g1_0
  obtain ⟨b1, rfl⟩ := fits_u64 f1_1
  obtain ⟨x1_2, l1_2, rfl, f1_2, g1_2⟩ := fits_cons g1_1
  obtain ⟨b2, rfl, w1_2⟩ := f1_2
  obtain rfl := fits_nil g1_2
  clear hA0 hval0
  refine (walk a b0 b1 b2 W (glob_of hL)).mono fun e W' ⟨he, bel⟩ => ?_
  subst he
  exact ⟨_, rfl, _, _, _, [], _, [], hW', trodAll_mk1 (shut_bool Tryd.underlying4 _), (trodAll_cons_mk (Below.trod laidOut (by kernel_rfl) (of_decide_eq_true (by kernel_rfl)) k0 bel lt0) (trodAll_cons_mk (Below.trod laidOut (by kernel_rfl) (of_decide_eq_true (by kernel_rfl)) k1 bel lt1) trodAll_mk0)), rfl, bel.frame _, fun h => by cases h⟩

theorem writtenPrefix_of (walk : ∀ (a : Int) (b0 : BitVec 64) (b1 : BitVec 64) (b2 : Int) (w : World), GlobOK w.heap.size w → Calls Tryd.prog 4 #[.int .i64 a, .agg #[.int .u64 (b0.toNat : Int), .int .u64 (b1.toNat : Int), .int .i64 b2]] w fun e w' => e = .returned (.bool true) ∧ Below w.heap.size w w') : Rows.WrittenPrefixSaid :=
  OpenClaim.holds_of_wide 4 Tryd.f4 rfl rfl rfl rfl rfl rfl rfl ⟨rfl, rfl, rfl, rfl, rfl⟩ rfl rfl rfl rfl rfl (by kernel_rfl) Tryd.func4 (by kernel_rfl)
    (of_decide_eq_true (by kernel_rfl)) (by unfold Func.isWrapper; first | (rw [if_pos (by decide +kernel)]; kernel_rfl) | (rw [if_neg (by decide +kernel)]; exact ⟨rfl, rfl⟩))
    (fun os started H enc _ => writtenPrefix_lifted walk os started H enc)

theorem writtenPrefix_card (walk : ∀ (a : Int) (b0 : BitVec 64) (b1 : BitVec 64) (b2 : Int) (w : World), GlobOK w.heap.size w → Calls Tryd.prog 4 #[.int .i64 a, .agg #[.int .u64 (b0.toNat : Int), .int .u64 (b1.toNat : Int), .int .i64 b2]] w fun e w' => e = .returned (.bool true) ∧ Below w.heap.size w w') : Rows.WrittenPrefixCardSaid :=
  Claim7.holds_tied_plain_at .later [] [.data, .data, .data] true Rows.writtenPrefixCard.stood.harness false (writtenPrefix_of walk) (fun _ h => by cases h) (by kernel_rfl) (fun _ h => by cases h) writtenPrefix_row_tie rfl ⟨rfl, rfl⟩ (by kernel_rfl) rfl
    (fun f fn hf hfn => by
      obtain rfl : f = 4 := Option.some.inj ((show Tryd.prog.funcNamed Rows.writtenPrefixRow.func = some 4 by kernel_rfl).symm.trans hf) |>.symm
      obtain rfl : fn = Tryd.f4 := (Option.some.inj (Tryd.func4.symm.trans hfn)).symm
      exact ⟨by kernel_rfl, fun j t ht => by
        rw [Tryd.params4] at ht
        have hm : t ∈ [3, 36] := by simpa using Array.mem_of_getElem? ht
        have hall : ([3, 36].all fun u => !Tryd.prog.wantsStandIn u) = true := by kernel_rfl
        exact (show Tryd.prog.wantsStandIn t = false by simpa using List.all_eq_true.1 hall t hm)⟩)
    (by kernel_rfl)


end Go.Proofs.YtkdcajibehpeaaaDoor.L1
