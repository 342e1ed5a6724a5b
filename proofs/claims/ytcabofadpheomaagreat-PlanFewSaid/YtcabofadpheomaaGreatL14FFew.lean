/-
 The law PlanFew: its frame.
-/
import Derived.Test.YtcabofadpheomaaGreatL14b
import Derived.WalkKit
import Derived.ProofKit
import Derived.OpenShut
import Derived.ShutString
import Derived.ChangeOld
import Derived.Below
namespace Go.Proofs.YtcabofadpheomaaGreat.L1
open Go.Sx
open Go.ChangeShapes Go.WideShapes Go.ChangeAt Go.RowKit

open Go.Sx.M

theorem planFew_call{C9:Sx.Call}(hC:COK Tryz.prog false C9)(a:Int)(b:Int)(C:List Ro)(vc:Value)(d0:BitVec 64)(d1:BitVec 64)(d2:Int)(d3:Int){hs:List Hint}(h:C9 4 [.int .i64 a, .int .i64 b, .vsl 0 0 (C.map roE).length, .agg [.w64 d0, .w64 d1, .int .i64 d2, .int .i64 d3]] [some ⟨false,66,4,true,C.map roE⟩] hs i9)(w:World){ρ:List Sx.Loc}(hR:gL w ρ [some ⟨false,66,4,true,C.map roE⟩])(hvc:AVR ρ (.vsl 0 0 (C.map roE).length) vc):
  Calls Tryz.prog 4 #[.int .i64 a, .int .i64 b,vc, .agg #[.int .u64 (d0.toNat:Int), .int .u64 (d1.toNat:Int), .int .i64 d2, .int .i64 d3]] w fun e w'=>e= .returned (.bool true)∧Below w.heap.size w w':=
 nC hC h (fun _ hp=>by simp[Sx.globs] at hp) hR (vs:=[.int .i64 a, .int .i64 b,vc, .agg #[.int .u64 (d0.toNat:Int), .int .u64 (d1.toNat:Int), .int .i64 d2, .int .i64 d3]]) (.cons (.int _ _) (.cons (.int _ _) (.cons (hvc) (.cons (.agg (.cons (.w64 _) (.cons (.w64 _) (.cons (.int _ _) (.cons (.int _ _) (.nil)))))) (.nil))))) noNG Tryz.func4 (by kernel_rfl)

set_option maxRecDepth 100000 in
theorem sR(walk:∀(a:Int) (b:Int) (C:List Ro) (_:C.length≤maxLen) (vc:Value) (d0:BitVec 64) (d1:BitVec 64) (d2:Int) (d3:Int) (w:World) (ρ:List Sx.Loc) (_:gL w ρ [some ⟨false,66,4,true,C.map roE⟩]) (_:AVR ρ (.vsl 0 0 (C.map roE).length) vc),Calls Tryz.prog 4 #[.int .i64 a, .int .i64 b,vc, .agg #[.int .u64 (d0.toNat:Int), .int .u64 (d1.toNat:Int), .int .i64 d2, .int .i64 d3]] w fun e w'=>e= .returned (.bool true)∧Below w.heap.size w w')
  (os:Os) (started:os.Started) (H:Type) (enc:TypeId×Value→H):
  ReturnsInHanded {} Tryz.checked os 4 .any (Rows.planFewSpec.pre6 enc Tryz.prog Tryz.f4 Rows.planFewRow.domain false) (Rows.planFewSpec.post enc Tryz.prog Tryz.f4 false true false false):=by
 refine returnsInHanded_of_change (C:=Tryz.checked) own started (by kernel_rfl) Tryz.func4
  (ChangeSpec.witness6 (enc:=enc) (C:=Tryz.checked) false ⟨#[], #[.int .i64 0, .int .i64 0, .slice none 0 0, .agg #[.int .u64 0, .int .u64 0, .int .i64 0, .int .i64 0]],[]⟩ 8 (by kernel_rfl) (by kernel_rfl) (by kernel_rfl) (by kernel_rfl)) ?_
 intro W base args ds gs before hval0 hW hcnd _
 have hval:∀(j:Nat) t v,Tryz.f4.params[j]?=some t→args[j]?=some v→Value.okWide Tryz.prog W .any base t v:=hval0
 have hW':=hW
 obtain⟨p,q,hA0,hV,rfl,hfz,hnd⟩:=hW
 have hA:DataW.TrodAll enc Tryz.prog W 0 (fun _=>true) true Tryz.f4.params.toList args.toList ds p:=hA0
 rw[Tryz.params4] at hA hval
 obtain⟨v0,vs0,d0,ds0,p0,q0,hargs,rfl,rfl,h0,r0⟩:=trodAll_cons hA
 obtain⟨v1,vs1,d1,ds1,p1,q1,rfl,rfl,rfl,h1,r1⟩:=trodAll_cons r0
 obtain⟨v2,vs2,d2,ds2,p2,q2,rfl,rfl,rfl,h2,r2⟩:=trodAll_cons r1
 obtain⟨v3,vs3,d3,ds3,p3,q3,rfl,rfl,rfl,h3,r3⟩:=trodAll_cons r2
 obtain⟨rfl,rfl,rfl⟩:=trodAll_nil r3
 obtain rfl:args= #[v0,v1,v2,v3]:=by cases args;simp_all
 obtain⟨rfl,rfl⟩:=trodVars_none hV
 have k0:=h0
 have lt0:∀x∈p0,x.block<W.heap.size:=by obtain⟨m,hm⟩:=k0;exact DataW.trod_lt m _ _ _ hm
 have k1:=h1
 have lt1:∀x∈p1,x.block<W.heap.size:=by obtain⟨m,hm⟩:=k1;exact DataW.trod_lt m _ _ _ hm
 have k2:=h2
 have lt2:∀x∈p2,x.block<W.heap.size:=by obtain⟨m,hm⟩:=k2;exact DataW.trod_lt m _ _ _ hm
 have k3:=h3
 have lt3:∀x∈p3,x.block<W.heap.size:=by obtain⟨m,hm⟩:=k3;exact DataW.trod_lt m _ _ _ hm
 obtain⟨a,rfl,rfl,rfl,w0⟩:=open_int (k:= .i64) (by kernel_rfl) (hval 0 3 v0 rfl rfl) h0
 obtain⟨b,rfl,rfl,rfl,w1⟩:=open_int (k:= .i64) (by kernel_rfl) (hval 1 3 v1 rfl rfl) h1
 obtain⟨loc2,L2,hl2,hv2,hb2⟩:=pv roE (D:=9) (ks:=[.int .u64, .int .u64, .int .i64, .int .i64]) Tryz.underlying22 (by kernel_rfl) (by kernel_rfl) zr (hval 2 _ v2 rfl rfl) h2 66
 obtain⟨l3,rfl⟩:=s5 (by kernel_rfl) (hval 3 66 v3 rfl rfl)
 have g3_s:f8 [.int .u64, .int .u64, .int .i64, .int .i64] l3:=by have e:=qv (D:=9) (ks:=[.int .u64, .int .u64, .int .i64, .int .i64]) (v:= .agg l3.toArray) (by kernel_rfl) (hval 3 66 _ rfl rfl) h3;simpa [Value.cells] using e
 obtain⟨x3_0,l3_0,rfl,f3_0,g3_0⟩:=f9 g3_s
 obtain⟨d0,rfl⟩:=iY f3_0
 obtain⟨x3_1,l3_1,rfl,f3_1,g3_1⟩:=f9 g3_0
 obtain⟨d1,rfl⟩:=iY f3_1
 obtain⟨x3_2,l3_2,rfl,f3_2,g3_2⟩:=f9 g3_1
 obtain⟨d2,rfl,w3_2⟩:=f3_2
 obtain⟨x3_3,l3_3,rfl,f3_3,g3_3⟩:=f9 g3_2
 obtain⟨d3,rfl,w3_3⟩:=f3_3
 obtain rfl:=pQ g3_3
 clear hA0 hval0
 refine (walk a b L2 hl2 v2 d0 d1 d2 d3 W [loc2] (gL.cons (hz:=Nat.succ_ne_zero _) gL.nil rfl hb2) (hv2 _ 0 rfl)).mono fun e W' ⟨he,bel⟩=> ?_
 subst he
 exact⟨_,rfl,_,_,_,[],_,[],hW',trodAll_mk1 (shut_bool Tryz.underlying4 _),(trodAll_cons_mk (Below.trod gQ (by kernel_rfl) (of_decide_eq_true (by kernel_rfl)) k0 bel lt0) (trodAll_cons_mk (Below.trod gQ (by kernel_rfl) (of_decide_eq_true (by kernel_rfl)) k1 bel lt1) (trodAll_cons_mk (Below.trod gQ (by kernel_rfl) (of_decide_eq_true (by kernel_rfl)) k2 bel lt2) (trodAll_cons_mk (Below.trod gQ (by kernel_rfl) (of_decide_eq_true (by kernel_rfl)) k3 bel lt3) trodAll_mk0)))),rfl,bel.frame _,fun h=>by cases h⟩

theorem Dd(walk:∀(a:Int) (b:Int) (C:List Ro) (_:C.length≤maxLen) (vc:Value) (d0:BitVec 64) (d1:BitVec 64) (d2:Int) (d3:Int) (w:World) (ρ:List Sx.Loc) (_:gL w ρ [some ⟨false,66,4,true,C.map roE⟩]) (_:AVR ρ (.vsl 0 0 (C.map roE).length) vc),Calls Tryz.prog 4 #[.int .i64 a, .int .i64 b,vc, .agg #[.int .u64 (d0.toNat:Int), .int .u64 (d1.toNat:Int), .int .i64 d2, .int .i64 d3]] w fun e w'=>e= .returned (.bool true)∧Below w.heap.size w w'):Rows.PlanFewSaid:=
 OpenClaim.holds_of_wide 4 Tryz.f4 rfl rfl rfl rfl rfl rfl rfl ⟨rfl,rfl,rfl,rfl,rfl⟩ rfl rfl rfl rfl rfl (by kernel_rfl) Tryz.func4 (by kernel_rfl)
  (of_decide_eq_true (by kernel_rfl)) (by unfold Func.isWrapper;first| (rw[if_pos (by decide+kernel)];kernel_rfl)| (rw[if_neg (by decide+kernel)];exact⟨rfl,rfl⟩))
  (fun os started H enc _=>sR walk os started H enc)

end Go.Proofs.YtcabofadpheomaaGreat.L1
