/-
 The law PlanLaid: its frame.
-/
import Derived.Test.YtcabofadpheomaaGreatL14b
import Derived.WalkKit
import Derived.ProofKit
import Derived.OpenShut
import Derived.ShutString
import Derived.ChangeOld
import Derived.Below
namespace Go.Proofs.YtcabofadpheomaaGreat.L1
open Go.Sx
open Go.ChangeShapes Go.WideShapes Go.ChangeAt Go.RowKit

open Go.Sx.M

theorem planLaid_call{C9:Sx.Call}(hC:COK Tryz.prog false C9)(a:Int)(B:List Ro)(vb:Value)(c0:BitVec 64)(c1:BitVec 64){hs:List Hint}(h:C9 5 [.int .i64 a, .vsl 0 0 (B.map roE).length, .agg [.w64 c0, .w64 c1]] [some ⟨false,66,4,true,B.map roE⟩] hs i9)(w:World){ρ:List Sx.Loc}(hR:gL w ρ [some ⟨false,66,4,true,B.map roE⟩])(hvb:AVR ρ (.vsl 0 0 (B.map roE).length) vb):
  Calls Tryz.prog 5 #[.int .i64 a,vb, .agg #[.int .u64 (c0.toNat:Int), .int .u64 (c1.toNat:Int)]] w fun e w'=>e= .returned (.bool true)∧Below w.heap.size w w':=
 nC hC h (fun _ hp=>by simp[Sx.globs] at hp) hR (vs:=[.int .i64 a,vb, .agg #[.int .u64 (c0.toNat:Int), .int .u64 (c1.toNat:Int)]]) (.cons (.int _ _) (.cons (hvb) (.cons (.agg (.cons (.w64 _) (.cons (.w64 _) (.nil)))) (.nil)))) noNG Tryz.func5 (by kernel_rfl)

set_option maxRecDepth 100000 in
theorem rz(walk:∀(a:Int) (B:List Ro) (_:B.length≤maxLen) (vb:Value) (c0:BitVec 64) (c1:BitVec 64) (w:World) (ρ:List Sx.Loc) (_:gL w ρ [some ⟨false,66,4,true,B.map roE⟩]) (_:AVR ρ (.vsl 0 0 (B.map roE).length) vb),Calls Tryz.prog 5 #[.int .i64 a,vb, .agg #[.int .u64 (c0.toNat:Int), .int .u64 (c1.toNat:Int)]] w fun e w'=>e= .returned (.bool true)∧Below w.heap.size w w')
  (os:Os) (started:os.Started) (H:Type) (enc:TypeId×Value→H):
  ReturnsInHanded {} Tryz.checked os 5 .any (Rows.planLaidSpec.pre6 enc Tryz.prog Tryz.f5 Rows.planLaidRow.domain false) (Rows.planLaidSpec.post enc Tryz.prog Tryz.f5 false true false false):=by
 refine returnsInHanded_of_change (C:=Tryz.checked) own started (by kernel_rfl) Tryz.func5
  (ChangeSpec.witness6 (enc:=enc) (C:=Tryz.checked) false ⟨#[], #[.int .i64 0, .slice none 0 0, .agg #[.int .u64 0, .int .u64 0]],[]⟩ 8 (by kernel_rfl) (by kernel_rfl) (by kernel_rfl) (by kernel_rfl)) ?_
 intro W base args ds gs before hval0 hW hcnd _
 have hval:∀(j:Nat) t v,Tryz.f5.params[j]?=some t→args[j]?=some v→Value.okWide Tryz.prog W .any base t v:=hval0
 have hW':=hW
 obtain⟨p,q,hA0,hV,rfl,hfz,hnd⟩:=hW
 have hA:DataW.TrodAll enc Tryz.prog W 0 (fun _=>true) true Tryz.f5.params.toList args.toList ds p:=hA0
 rw[Tryz.params5] at hA hval
 obtain⟨v0,vs0,d0,ds0,p0,q0,hargs,rfl,rfl,h0,r0⟩:=trodAll_cons hA
 obtain⟨v1,vs1,d1,ds1,p1,q1,rfl,rfl,rfl,h1,r1⟩:=trodAll_cons r0
 obtain⟨v2,vs2,d2,ds2,p2,q2,rfl,rfl,rfl,h2,r2⟩:=trodAll_cons r1
 obtain⟨rfl,rfl,rfl⟩:=trodAll_nil r2
 obtain rfl:args= #[v0,v1,v2]:=by cases args;simp_all
 obtain⟨rfl,rfl⟩:=trodVars_none hV
 have k0:=h0
 have lt0:∀x∈p0,x.block<W.heap.size:=by obtain⟨m,hm⟩:=k0;exact DataW.trod_lt m _ _ _ hm
 have k1:=h1
 have lt1:∀x∈p1,x.block<W.heap.size:=by obtain⟨m,hm⟩:=k1;exact DataW.trod_lt m _ _ _ hm
 have k2:=h2
 have lt2:∀x∈p2,x.block<W.heap.size:=by obtain⟨m,hm⟩:=k2;exact DataW.trod_lt m _ _ _ hm
 obtain⟨a,rfl,rfl,rfl,w0⟩:=open_int (k:= .i64) (by kernel_rfl) (hval 0 3 v0 rfl rfl) h0
 obtain⟨loc1,L1,hl1,hv1,hb1⟩:=pv roE (D:=9) (ks:=[.int .u64, .int .u64, .int .i64, .int .i64]) Tryz.underlying22 (by kernel_rfl) (by kernel_rfl) zr (hval 1 _ v1 rfl rfl) h1 66
 obtain⟨l2,rfl⟩:=s5 (by kernel_rfl) (hval 2 25 v2 rfl rfl)
 have g2_s:f8 [.int .u64, .int .u64] l2:=by have e:=qv (D:=9) (ks:=[.int .u64, .int .u64]) (v:= .agg l2.toArray) (by kernel_rfl) (hval 2 25 _ rfl rfl) h2;simpa [Value.cells] using e
 obtain⟨x2_0,l2_0,rfl,f2_0,g2_0⟩:=f9 g2_s
 obtain⟨c0,rfl⟩:=iY f2_0
 obtain⟨x2_1,l2_1,rfl,f2_1,g2_1⟩:=f9 g2_0
 obtain⟨c1,rfl⟩:=iY f2_1
 obtain rfl:=pQ g2_1
 clear hA0 hval0
 refine (walk a L1 hl1 v1 c0 c1 W [loc1] (gL.cons (hz:=Nat.succ_ne_zero _) gL.nil rfl hb1) (hv1 _ 0 rfl)).mono fun e W' ⟨he,bel⟩=> ?_
 subst he
 exact⟨_,rfl,_,_,_,[],_,[],hW',trodAll_mk1 (shut_bool Tryz.underlying4 _),(trodAll_cons_mk (Below.trod gQ (by kernel_rfl) (of_decide_eq_true (by kernel_rfl)) k0 bel lt0) (trodAll_cons_mk (Below.trod gQ (by kernel_rfl) (of_decide_eq_true (by kernel_rfl)) k1 bel lt1) (trodAll_cons_mk (Below.trod gQ (by kernel_rfl) (of_decide_eq_true (by kernel_rfl)) k2 bel lt2) trodAll_mk0))),rfl,bel.frame _,fun h=>by cases h⟩

theorem An(walk:∀(a:Int) (B:List Ro) (_:B.length≤maxLen) (vb:Value) (c0:BitVec 64) (c1:BitVec 64) (w:World) (ρ:List Sx.Loc) (_:gL w ρ [some ⟨false,66,4,true,B.map roE⟩]) (_:AVR ρ (.vsl 0 0 (B.map roE).length) vb),Calls Tryz.prog 5 #[.int .i64 a,vb, .agg #[.int .u64 (c0.toNat:Int), .int .u64 (c1.toNat:Int)]] w fun e w'=>e= .returned (.bool true)∧Below w.heap.size w w'):Rows.PlanLaidSaid:=
 OpenClaim.holds_of_wide 5 Tryz.f5 rfl rfl rfl rfl rfl rfl rfl ⟨rfl,rfl,rfl,rfl,rfl⟩ rfl rfl rfl rfl rfl (by kernel_rfl) Tryz.func5 (by kernel_rfl)
  (of_decide_eq_true (by kernel_rfl)) (by unfold Func.isWrapper;first| (rw[if_pos (by decide+kernel)];kernel_rfl)| (rw[if_neg (by decide+kernel)];exact⟨rfl,rfl⟩))
  (fun os started H enc _=>rz walk os started H enc)

end Go.Proofs.YtcabofadpheomaaGreat.L1
