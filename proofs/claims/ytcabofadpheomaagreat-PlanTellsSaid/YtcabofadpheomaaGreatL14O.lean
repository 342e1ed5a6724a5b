/-
 Layer 14: the law PlanTells: its proof.
-/
import Derived.Test.YtcabofadpheomaaGreatL14N
namespace Go.Proofs.YtcabofadpheomaaGreat.L1
open Go.Sx Go.Sx.M

theorem Ps{c:Bool}{C D E P:Prop}(h:c=true→C→D)(p:(c=true→E)→P):(c=true→(C→D)∧(E→P))∧(c=false→P):=
 ⟨fun a=>⟨h a,fun e=>p fun _=>e⟩,fun b=>p fun a=>by rw[b] at a;cases a⟩

theorem KW{c d:Bool}{A B C R:Prop}(a:c=true→A)(b:c=false→d=true→B)(e:c=false→d=false→C)(r:R):(c=true→A∧R)∧(c=false→(d=true→B∧R)∧(d=false→C∧R)):=
 ⟨fun h=>⟨a h,r⟩,fun h=>⟨fun g=>⟨b h g,r⟩,fun g=>⟨e h g,r⟩⟩⟩

theorem Ky{l:List Ro}(h:TB 128 l)(k:Int):siE (bdE l k)=true:=by
 by_cases hk:k<0∨k>2
 ·rw[EF hk];rfl
 ·exact (rX h (m:=k) (by omega) (by omega)).1

theorem Kx{l:List Ro}(h:TB 128 l){k:Int}(h0:¬k<0)(h1:¬k>2)(a b:BitVec 64):tlI (bdE l k) a b=tlR l a b:=
 (rX h (m:=k) (by omega) (by omega)).2.2 a b

theorem rW(l:List Ro){k:Int}(hk:k<0∨k>2)(a b:BitVec 64):tlI (bdE l k) a b=0:=by
 rw[EF hk];rfl

structure PzP(o k n:Int)(l m:List Ro)(a b:BitVec 64):Prop where
 len:∀p,(pzN o k n l m p).length≤64
 kept:∀p,p≤(pzW o k n l m).length→kpO o (pzN o k n l m p)=true
 told:∀p,p≤(pzW o k n l m).length→tlS (pzN o k n l m p) a b=tlI (bdE l k) a b∨tlS (pzN o k n l m p) a b=tlI (bdE m k) a b
 all:srE (ensS (pzN o k n l m (pzW o k n l m).length))=srE (bdE m k)
 end':tlS (pzN o k n l m (pzW o k n l m).length) a b=tlI (bdE m k) a b

theorem Ik{o k n:Int}{l m:List Ro}(a b:BitVec 64)(hT:TB 128 l)(hU:TB 128 m)(hl:l.length≤10)(ho:isO o=true)(hk:o=1→k≠2)(hb:ldB o n (bdE l k)=true):
  (gq o (stE (bdE l k) (bdE m k)) (pzL o k n l)=3∧pzW o k n l m=[])∨(gq o (stE (bdE l k) (bdE m k)) (pzL o k n l)=0∧PzP o k n l m a b):=by
 obtain⟨_,p2⟩:=qb hT hl (n:=n) ho hk
 obtain⟨u1,u2,_,u3⟩:=p2 hb
 have u1:(pzL o k n l).length=ldN n:=u1
 have u2:OrB (ji o) (pzL o k n l):=u2
 have u3:(ensS (pzL o k n l)).Perm (bdE l k):=u3
 have sX:=Ky hT k
 have sY:=Ky hU k
 have sX':siE (srE (bdE l k))=true:=by rw[gY (e9 _)];exact sX
 have sY':siE (srE (bdE m k))=true:=by rw[gY (e9 _)];exact sY
 have tX:tlI (srE (bdE l k)) a b=tlI (bdE l k) a b:=ig (e9 _) (fS sX' a b)
 have tY:tlI (srE (bdE m k)) a b=tlI (bdE m k) a b:=ig (e9 _) (fS sY' a b)
 have h64:ldN n≤64:=by unfold ldN;omega
 rcases z8 ho (a:=srE (bdE l k)) (b:=srE (bdE m k)) (fun e he=>he.elim (fun h=>Kz hT k e ((e9 _).mem_iff.1 h)) fun h=>Kz hU k e ((e9 _).mem_iff.1 h))
  (fun h1 e he=>he.elim (fun h=>FW hT (hk h1) e ((e9 _).mem_iff.1 h)) fun h=>FW hU (hk h1) e ((e9 _).mem_iff.1 h)) (stE (bdE l k) (bdE m k)) (KZ sX sY u3) u2 (List.Perm.refl _) with⟨h1,_⟩| ⟨h1,h2⟩
 ·exact .inl ⟨h1,CD (by rw[h1];decide)⟩
 ·have run:∀p,p≤(pzW o k n l m).length→OrB (ji o) (pzN o k n l m p)∧∃cur,Mix (srE (bdE l k)) (srE (bdE m k)) cur∧∀e,e∈ensS (pzN o k n l m p)↔e∈cur:=fun p hp=>h2.run p hp
  have last:pzN o k n l m (pzW o k n l m).length=apL (pzL o k n l) (pzW o k n l m):=by unfold pzN;rw[List.take_length]
  have all:(ensS (pzN o k n l m (pzW o k n l m).length)).Perm (srE (bdE m k)):=by rw[last];exact h2.all
  refine .inr ⟨h1,⟨fun p=> ?_,fun p hp=>(LF ho).2 (run p hp).1,fun p hp=> ?_, ?_, ?_⟩⟩
  ·unfold pzN;rw[gk,u1];exact h64
  ·obtain⟨g1,cur,g2,g3⟩:=run p hp
   rw[mB (zi g1),←tX,←tY]
   exact I5 sX' sY' g2 g3 a b
  ·exact qY (all.trans (e9 _))
  ·have hs:siE (ensS (pzN o k n l m (pzW o k n l m).length))=true:=by rw[gY all];exact sY'
   rw[mB (zi (run _ (Nat.le_refl _)).1),ig all (fS hs a b),tY]

theorem tt(n:Nat):0+n≤n:=Nat.le_of_eq (Nat.zero_add n)

set_option maxRecDepth 100000 in
theorem rv(o k n:Int)(l m:List Ro)(a b:BitVec 64)(hL:l.length≤9223372036854775807)(hM:m.length≤9223372036854775807):∃hs,run sM Tryz.prog 3 [.int .i64 o, .int .i64 k, .int .i64 n, .vsl 0 0 (l.map roE).length, .vsl 1 0 (m.map roE).length, .agg [.w64 a, .w64 b]] [some ⟨false,66,4,true,l.map roE⟩,some ⟨false,66,4,true,m.map roE⟩] hs i9:=by
 refine⟨pzH o k n l m a b, ?_⟩
 rw[ru];(conv=>zeta);rw[eT roE l,eT roE m,iL l,iL m,eT enE (bdE l k),eT enE (bdE m k),gg (bdE l k),gg (bdE m k)]
 refine⟨tt _,rfl,hL,fun _=>⟨trivial,rfl⟩,fun ht=>⟨tt _,rfl,hM,fun _=>⟨trivial,rfl⟩,fun hu=>⟨fun _=>⟨trivial,rfl⟩,fun hl=>⟨fun _=>⟨trivial,rfl⟩,fun hm=>⟨fun _=>⟨trivial,rfl⟩,fun hn=>⟨fun _=>⟨trivial,rfl⟩,fun ho=> ?_⟩⟩⟩⟩⟩⟩
 obtain⟨_,hT⟩:=xi (iR ht)
 obtain⟨_,hU⟩:=xi (iR hu)
 have hl:l.length≤10:=by have:=of_decide_eq_false hl;rw[List.length_map] at this;omega
 have hm:m.length≤10:=by have:=of_decide_eq_false hm;rw[List.length_map] at this;omega
 have ho:=iR ho
 have hl2:=oY l k
 have hm2:=oY m k
 refine Ps (fun _ _=>⟨trivial,rfl⟩) fun hok=> ?_
 have hok:o=1→k≠2:=fun h=>by have:=hok (by rw[h];rfl);simpa using this
 refine⟨tt _,rfl,⟨by omega,gm.2 hT⟩,⟨rfl,rfl⟩,tt _,rfl,⟨by omega,gm.2 hU⟩,⟨rfl,rfl⟩,tt _,rfl,by omega,fun _=>⟨trivial,rfl⟩,fun hb=> ?_⟩
 have hb:=iR hb
 rw[eT slE (ldA o n (bdE l k) (bdE l k).length),fG (ldA o n (bdE l k) (bdE l k).length),eT spE (stE (bdE l k) (bdE m k)),BW (stE (bdE l k) (bdE m k)),show ldA o n (bdE l k) (bdE l k).length=pzL o k n l from rfl,show gy o (stE (bdE l k) (bdE m k)) (pzL o k n l)=pzW o k n l m from rfl]
 have hs:=oA (bdE l k) (bdE m k)
 have h64:(pzL o k n l).length≤64:=by
  obtain⟨_,p2⟩:=qb hT hl (n:=n) ho hok
  have:(pzL o k n l).length=ldN n:=(p2 hb).1
  rw[this];unfold ldN;omega
 refine⟨tt _,tt _,rfl,by omega,rfl,by omega,⟨rfl,rfl⟩,tt _,tt _,rfl,by omega,rfl,by omega,fun he=> ?_,fun he=>⟨⟨tt _,rfl,gm.2 hT,tt _,rfl,gm.2 hU,(),rfl,trivial⟩,fun _ _=> ?_⟩⟩
 ·have he:gq o (stE (bdE l k) (bdE m k)) (pzL o k n l)≠0:=by simpa using he
  rcases Ik a b hT hU hl ho hok hb with⟨h1,h2⟩| ⟨h1,_⟩
  ·rw[h1,h2];exact⟨rfl,rfl,trivial,rfl⟩
  ·exact absurd h1 he
 have he:gq o (stE (bdE l k) (bdE m k)) (pzL o k n l)=0:=by simpa using he
 have few:(pzW o k n l m).length≤20*65:=Nat.le_trans (CC o (stE (bdE l k) (bdE m k)) (pzL o k n l)) (Nat.mul_le_mul (by omega) (by omega))
 have P:PzP o k n l m a b:=by
  rcases Ik a b hT hU hl ho hok hb with⟨h1,_⟩| ⟨_,h2⟩
  ·rw[h1] at he;cases he
  ·exact h2
 refine KW (fun h=>⟨?_,Nat.zero_le _⟩) (fun _ h=>⟨?_,Nat.zero_le _⟩) (fun h g=>⟨?_,Nat.zero_le _⟩) fun p hp=>⟨fun hlt=> ?_,fun hge=> ?_⟩
 ·unfold pzS
  rw[rW l (.inl (of_decide_eq_true h)),rW m (.inl (of_decide_eq_true h))]
  rfl
 ·unfold pzS
  rw[rW l (.inr (of_decide_eq_true h)),rW m (.inr (of_decide_eq_true h))]
  rfl
 ·unfold pzS
  rw[Kx hT (of_decide_eq_false h) (of_decide_eq_false g),Kx hU (of_decide_eq_false h) (of_decide_eq_false g)]
  rfl
 ·simp only[eT,fG,L9,zLe,true_and,eq_self]
  have hlt:p< (pzW o k n l m).length:=by have:=of_decide_eq_true hlt;rw[List.length_map] at this;omega
  have nx:apL (pzN o k n l m p) [at' (pzW o k n l m) p]=pzN o k n l m (p+1):=by
   unfold pzN
   rw[gX hlt,o5]
  have B:0≤(p:Int)∧(p:Int)< (((pzW o k n l m).map wrE).length:Int):=⟨by omega,by rw[List.length_map];omega⟩
  have i1:inRange .i64 ((p:Int)+1):=inR (by omega) (by omega)
  have l1:=P.len p
  have l2:=P.len (p+1)
  have kp:=P.kept (p+1) hlt
  refine⟨B,eL B.1 B.2 (kL _),by omega,by simp,⟨congrArg (List.map slE) nx,congrArg (fun x=>(List.map slE x).length) nx⟩,by omega,fun h=>⟨?_,by omega,by rw[kp];rfl,i1,p+1,rfl,hlt,by omega⟩,fun _=>⟨by omega,by rw[kp];rfl,i1,p+1,rfl,hlt,by omega⟩⟩
  rcases P.told (p+1) hlt with e|e
  ·rw[e] at h;simp at h
  ·rw[e];simp
 ·simp only[eT,fG,gg,zLe,true_and,and_true,eq_self]
  have hge:p=(pzW o k n l m).length:=by have:=of_decide_eq_false hge;rw[List.length_map] at this;have:p≤(pzW o k n l m).length:=hp;omega
  subst hge
  have l1:=P.len (pzW o k n l m).length
  have l2:=fJ (pzN o k n l m (pzW o k n l m).length)
  have eG:=P.all
  have l3:(srE (bdE m k)).length=(bdE m k).length:=fj _
  refine⟨by omega,by omega,by omega,by omega,by omega,by rw[eG];simp,by omega,by rw[P.end'];simp,⟨rfl,Nat.zero_le _⟩,fun q hq=>⟨fun hlt=> ?_,fun _=>trivial⟩⟩
  rw[eG] at hlt⊢
  have hlt:q< (srE (bdE m k)).length:=by have:=of_decide_eq_true hlt;rw[List.length_map] at this;omega
  have B:0≤(q:Int)∧(q:Int)< (((srE (bdE m k)).map enE).length:Int):=⟨by omega,by rw[List.length_map];omega⟩
  refine⟨B,eL B.1 B.2 (jl _),B,eL B.1 B.2 (jl _),by simp,inR (by omega) (by omega),q+1, ?_,hlt,by omega⟩
  unfold NO
  rw[eG]
  rfl

end Go.Proofs.YtcabofadpheomaaGreat.L1
