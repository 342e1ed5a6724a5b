/-
 The law PlanTells: its frame.
-/
import Derived.Test.YtcabofadpheomaaGreatL14b
import Derived.WalkKit
import Derived.ProofKit
import Derived.OpenShut
import Derived.ShutString
import Derived.ChangeOld
import Derived.Below
namespace Go.Proofs.YtcabofadpheomaaGreat.L1
open Go.Sx
open Go.ChangeShapes Go.WideShapes Go.ChangeAt Go.RowKit

open Go.Sx.M

theorem planTells_call{C9:Sx.Call}(hC:COK Tryz.prog false C9)(a:Int)(b:Int)(c:Int)(D:List Ro)(vd:Value)(E:List Ro)(ve:Value)(f0:BitVec 64)(f1:BitVec 64){hs:List Hint}(h:C9 3 [.int .i64 a, .int .i64 b, .int .i64 c, .vsl 0 0 (D.map roE).length, .vsl 1 0 (E.map roE).length, .agg [.w64 f0, .w64 f1]] [some ⟨false,66,4,true,D.map roE⟩,some ⟨false,66,4,true,E.map roE⟩] hs i9)(w:World){ρ:List Sx.Loc}(hR:gL w ρ [some ⟨false,66,4,true,D.map roE⟩,some ⟨false,66,4,true,E.map roE⟩])(hvd:AVR ρ (.vsl 0 0 (D.map roE).length) vd)(hve:AVR ρ (.vsl 1 0 (E.map roE).length) ve):
  Calls Tryz.prog 3 #[.int .i64 a, .int .i64 b, .int .i64 c,vd,ve, .agg #[.int .u64 (f0.toNat:Int), .int .u64 (f1.toNat:Int)]] w fun e w'=>e= .returned (.bool true)∧Below w.heap.size w w':=
 nC hC h (fun _ hp=>by simp[Sx.globs] at hp) hR (vs:=[.int .i64 a, .int .i64 b, .int .i64 c,vd,ve, .agg #[.int .u64 (f0.toNat:Int), .int .u64 (f1.toNat:Int)]]) (.cons (.int _ _) (.cons (.int _ _) (.cons (.int _ _) (.cons (hvd) (.cons (hve) (.cons (.agg (.cons (.w64 _) (.cons (.w64 _) (.nil)))) (.nil))))))) noNG Tryz.func3 (by kernel_rfl)

set_option maxRecDepth 100000 in
theorem qr(walk:∀(a:Int) (b:Int) (c:Int) (D:List Ro) (_:D.length≤maxLen) (vd:Value) (E:List Ro) (_:E.length≤maxLen) (ve:Value) (f0:BitVec 64) (f1:BitVec 64) (w:World) (ρ:List Sx.Loc) (_:gL w ρ [some ⟨false,66,4,true,D.map roE⟩,some ⟨false,66,4,true,E.map roE⟩]) (_:AVR ρ (.vsl 0 0 (D.map roE).length) vd) (_:AVR ρ (.vsl 1 0 (E.map roE).length) ve),Calls Tryz.prog 3 #[.int .i64 a, .int .i64 b, .int .i64 c,vd,ve, .agg #[.int .u64 (f0.toNat:Int), .int .u64 (f1.toNat:Int)]] w fun e w'=>e= .returned (.bool true)∧Below w.heap.size w w')
  (os:Os) (started:os.Started) (H:Type) (enc:TypeId×Value→H):
  ReturnsInHanded {} Tryz.checked os 3 .any (Rows.planTellsSpec.pre6 enc Tryz.prog Tryz.f3 Rows.planTellsRow.domain false) (Rows.planTellsSpec.post enc Tryz.prog Tryz.f3 false true false false):=by
 refine returnsInHanded_of_change (C:=Tryz.checked) own started (by kernel_rfl) Tryz.func3
  (ChangeSpec.witness6 (enc:=enc) (C:=Tryz.checked) false ⟨#[], #[.int .i64 0, .int .i64 0, .int .i64 0, .slice none 0 0, .slice none 0 0, .agg #[.int .u64 0, .int .u64 0]],[]⟩ 8 (by kernel_rfl) (by kernel_rfl) (by kernel_rfl) (by kernel_rfl)) ?_
 intro W base args ds gs before hval0 hW hcnd _
 have hval:∀(j:Nat) t v,Tryz.f3.params[j]?=some t→args[j]?=some v→Value.okWide Tryz.prog W .any base t v:=hval0
 have hW':=hW
 obtain⟨p,q,hA0,hV,rfl,hfz,hnd⟩:=hW
 have hA:DataW.TrodAll enc Tryz.prog W 0 (fun _=>true) true Tryz.f3.params.toList args.toList ds p:=hA0
 rw[Tryz.params3] at hA hval
 obtain⟨v0,vs0,d0,ds0,p0,q0,hargs,rfl,rfl,h0,r0⟩:=trodAll_cons hA
 obtain⟨v1,vs1,d1,ds1,p1,q1,rfl,rfl,rfl,h1,r1⟩:=trodAll_cons r0
 obtain⟨v2,vs2,d2,ds2,p2,q2,rfl,rfl,rfl,h2,r2⟩:=trodAll_cons r1
 obtain⟨v3,vs3,d3,ds3,p3,q3,rfl,rfl,rfl,h3,r3⟩:=trodAll_cons r2
 obtain⟨v4,vs4,d4,ds4,p4,q4,rfl,rfl,rfl,h4,r4⟩:=trodAll_cons r3
 obtain⟨v5,vs5,d5,ds5,p5,q5,rfl,rfl,rfl,h5,r5⟩:=trodAll_cons r4
 obtain⟨rfl,rfl,rfl⟩:=trodAll_nil r5
 obtain rfl:args= #[v0,v1,v2,v3,v4,v5]:=by cases args;simp_all
 obtain⟨rfl,rfl⟩:=trodVars_none hV
 have k0:=h0
 have lt0:∀x∈p0,x.block<W.heap.size:=by obtain⟨m,hm⟩:=k0;exact DataW.trod_lt m _ _ _ hm
 have k1:=h1
 have lt1:∀x∈p1,x.block<W.heap.size:=by obtain⟨m,hm⟩:=k1;exact DataW.trod_lt m _ _ _ hm
 have k2:=h2
 have lt2:∀x∈p2,x.block<W.heap.size:=by obtain⟨m,hm⟩:=k2;exact DataW.trod_lt m _ _ _ hm
 have k3:=h3
 have lt3:∀x∈p3,x.block<W.heap.size:=by obtain⟨m,hm⟩:=k3;exact DataW.trod_lt m _ _ _ hm
 have k4:=h4
 have lt4:∀x∈p4,x.block<W.heap.size:=by obtain⟨m,hm⟩:=k4;exact DataW.trod_lt m _ _ _ hm
 have k5:=h5
 have lt5:∀x∈p5,x.block<W.heap.size:=by obtain⟨m,hm⟩:=k5;exact DataW.trod_lt m _ _ _ hm
 obtain⟨a,rfl,rfl,rfl,w0⟩:=open_int (k:= .i64) (by kernel_rfl) (hval 0 3 v0 rfl rfl) h0
 obtain⟨b,rfl,rfl,rfl,w1⟩:=open_int (k:= .i64) (by kernel_rfl) (hval 1 3 v1 rfl rfl) h1
 obtain⟨c,rfl,rfl,rfl,w2⟩:=open_int (k:= .i64) (by kernel_rfl) (hval 2 3 v2 rfl rfl) h2
 obtain⟨loc3,L3,hl3,hv3,hb3⟩:=pv roE (D:=9) (ks:=[.int .u64, .int .u64, .int .i64, .int .i64]) Tryz.underlying22 (by kernel_rfl) (by kernel_rfl) zr (hval 3 _ v3 rfl rfl) h3 66
 obtain⟨loc4,L4,hl4,hv4,hb4⟩:=pv roE (D:=9) (ks:=[.int .u64, .int .u64, .int .i64, .int .i64]) Tryz.underlying22 (by kernel_rfl) (by kernel_rfl) zr (hval 4 _ v4 rfl rfl) h4 66
 obtain⟨l5,rfl⟩:=s5 (by kernel_rfl) (hval 5 25 v5 rfl rfl)
 have g5_s:f8 [.int .u64, .int .u64] l5:=by have e:=qv (D:=9) (ks:=[.int .u64, .int .u64]) (v:= .agg l5.toArray) (by kernel_rfl) (hval 5 25 _ rfl rfl) h5;simpa [Value.cells] using e
 obtain⟨x5_0,l5_0,rfl,f5_0,g5_0⟩:=f9 g5_s
 obtain⟨f0,rfl⟩:=iY f5_0
 obtain⟨x5_1,l5_1,rfl,f5_1,g5_1⟩:=f9 g5_0
 obtain⟨f1,rfl⟩:=iY f5_1
 obtain rfl:=pQ g5_1
 clear hA0 hval0
 refine (walk a b c L3 hl3 v3 L4 hl4 v4 f0 f1 W [loc3,loc4] (gL.cons (hz:=Nat.succ_ne_zero _) (gL.cons (hz:=Nat.succ_ne_zero _) gL.nil rfl hb4) rfl hb3) (hv3 _ 0 rfl) (hv4 _ 1 rfl)).mono fun e W' ⟨he,bel⟩=> ?_
 subst he
 exact⟨_,rfl,_,_,_,[],_,[],hW',trodAll_mk1 (shut_bool Tryz.underlying4 _),(trodAll_cons_mk (Below.trod gQ (by kernel_rfl) (of_decide_eq_true (by kernel_rfl)) k0 bel lt0) (trodAll_cons_mk (Below.trod gQ (by kernel_rfl) (of_decide_eq_true (by kernel_rfl)) k1 bel lt1) (trodAll_cons_mk (Below.trod gQ (by kernel_rfl) (of_decide_eq_true (by kernel_rfl)) k2 bel lt2) (trodAll_cons_mk (Below.trod gQ (by kernel_rfl) (of_decide_eq_true (by kernel_rfl)) k3 bel lt3) (trodAll_cons_mk (Below.trod gQ (by kernel_rfl) (of_decide_eq_true (by kernel_rfl)) k4 bel lt4) (trodAll_cons_mk (Below.trod gQ (by kernel_rfl) (of_decide_eq_true (by kernel_rfl)) k5 bel lt5) trodAll_mk0)))))),rfl,bel.frame _,fun h=>by cases h⟩

theorem xM(walk:∀(a:Int) (b:Int) (c:Int) (D:List Ro) (_:D.length≤maxLen) (vd:Value) (E:List Ro) (_:E.length≤maxLen) (ve:Value) (f0:BitVec 64) (f1:BitVec 64) (w:World) (ρ:List Sx.Loc) (_:gL w ρ [some ⟨false,66,4,true,D.map roE⟩,some ⟨false,66,4,true,E.map roE⟩]) (_:AVR ρ (.vsl 0 0 (D.map roE).length) vd) (_:AVR ρ (.vsl 1 0 (E.map roE).length) ve),Calls Tryz.prog 3 #[.int .i64 a, .int .i64 b, .int .i64 c,vd,ve, .agg #[.int .u64 (f0.toNat:Int), .int .u64 (f1.toNat:Int)]] w fun e w'=>e= .returned (.bool true)∧Below w.heap.size w w'):Rows.PlanTellsSaid:=
 OpenClaim.holds_of_wide 3 Tryz.f3 rfl rfl rfl rfl rfl rfl rfl ⟨rfl,rfl,rfl,rfl,rfl⟩ rfl rfl rfl rfl rfl (by kernel_rfl) Tryz.func3 (by kernel_rfl)
  (of_decide_eq_true (by kernel_rfl)) (by unfold Func.isWrapper;first| (rw[if_pos (by decide+kernel)];kernel_rfl)| (rw[if_neg (by decide+kernel)];exact⟨rfl,rfl⟩))
  (fun os started H enc _=>qr walk os started H enc)

end Go.Proofs.YtcabofadpheomaaGreat.L1
