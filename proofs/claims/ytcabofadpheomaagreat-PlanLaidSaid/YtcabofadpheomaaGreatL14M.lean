/-
 Layer 14: the law PlanLaid: its condition, its proof.
-/
import Derived.Test.YtcabofadpheomaaGreatL14b
namespace Go.Proofs.YtcabofadpheomaaGreat.L1
open Go.Sx Go.Sx.M

noncomputable def sU:List (FuncId×Sx.Spec):=[(8,lz),(6,ey [pRo] pg),(9,ey [pRo,none] lm),(10,ey [none,none,pEn] pC),(15,ey [pSl,none] rL),(13,ey [pRo,none] yn)]

theorem sP(n:Int)(l:List Ro)(a b:BitVec 64):run sU Tryz.prog 5 [.int .i64 n, .vsl 0 0 (l.map roE).length, .agg [.w64 a, .w64 b]] [some ⟨false,66,4,true,l.map roE⟩] [.fork [] [.fork [] [.fork [] [.nm ((bdE l 0).map enE), .br false, .fork [] [.br true, .br true]]]]] i9=
  (let z:=List.map slE;let y:=Decidable.decide (n>(20:Int));let w:=true=true;let v:=List.map enE;let s:=(0:Int);let r:=List.map roE;let q:=(9223372036854775807:Nat);let o:=(0:Nat);let h:=List.length (r l);let C:=o+h≤h;let u:=Decidable.decide ((↑(h):Int)>(10:Int));let g:=v (bdE l s);let p:=List.length (g);let k:=List.take (p) (List.drop o (g));let d:=List.take (h) (List.drop o (r l));let m:=deR (d);let t:=tbR (128:Int) m=true;let c:=deE (k);let x:=List.length c;let j:=z (ldA s n c (x));let B:=List.length j;let i:=z (ldA (1:Int) n c (x));let A:=List.length i;let f:=List.take (A) (List.drop o i);let e:=List.take (B) (List.drop o j);(C∧d=r m∧List.length m≤q∧((!tb9 m)=true→True∧w)∧((!tb9 m)=false→(u=true→True∧w)∧(u=false→(y=true→True∧w)∧(y=false→C∧d=r m∧(List.length m≤(1000000:Nat)∧t)∧(v (bdE m s)=g∧List.length (v (bdE m s))=p)∧o+p≤p∧k=v c∧x≤(1000:Nat)∧o+p≤p∧k=v c∧x≤(1000:Nat)∧(!ldB s n c==ldB (1:Int) n c)=false∧((!ldB s n c)=true→True∧w)∧((!ldB s n c)=false→o+B≤B∧e=z (deS (e))∧List.length (deS (e))≤q∧C∧d=r m∧t∧(tlS (deS (e)) a b==tlR m a b)=true∧o+A≤A∧f=z (deS (f))∧List.length (deS (f))≤q∧C∧d=r m∧t∧(tlS (deS (f)) a b==tlR m a b)=true∧True∧w)))))):=by kernel_rfl

theorem sQ(n:Int)(l:List Ro)(a b:BitVec 64)(hL:l.length≤9223372036854775807):∃hs,run sU Tryz.prog 5 [.int .i64 n, .vsl 0 0 (l.map roE).length, .agg [.w64 a, .w64 b]] [some ⟨false,66,4,true,l.map roE⟩] hs i9:=by
 refine⟨[.fork [] [.fork [] [.fork [] [.nm ((bdE l 0).map enE), .br false, .fork [] [.br true, .br true]]]]], ?_⟩
 rw[sP];(conv=>zeta)
 simp only[eT,iL,gg,fG,zLe,true_and,and_true,eq_self,eq_true hL,implies_true]
 intro ht hl hn
 obtain⟨_,hT⟩:=xi (iR ht)
 have hl:l.length≤10:=by have:=of_decide_eq_false hl;rw[List.length_map] at this;omega
 have hl2:=oY l 0
 obtain⟨p1,p2⟩:=qb hT hl (o:=0) (k:=0) (n:=n) rfl (by decide)
 obtain⟨q1,q2⟩:=qb hT hl (o:=1) (k:=0) (n:=n) rfl (by decide)
 have eB:ldB 0 n (bdE l 0)=ldB 1 n (bdE l 0):=by rw[Bool.eq_iff_iff,p1,q1]
 have h64:ldN n≤64:=by unfold ldN;omega
 simp only[eq_true (show l.length≤1000000 by omega),eq_true (gm.2 hT),eq_true (show (bdE l 0).length≤1000 by omega),true_and]
 refine⟨by rw[eB];simp,fun hb=> ?_⟩
 have hb:ldB 0 n (bdE l 0)=true:=by simpa using hb
 obtain⟨u1,u2,_,u3⟩:=p2 hb
 obtain⟨v1,v2,_,v3⟩:=q2 (eB▸hb)
 rw[FV hT (by decide) (by decide) u2 u3,FV hT (by decide) (by decide) v2 v3,u1,v1]
 exact⟨by omega,beq_self_eq_true _,by omega,beq_self_eq_true _⟩

end Go.Proofs.YtcabofadpheomaaGreat.L1
