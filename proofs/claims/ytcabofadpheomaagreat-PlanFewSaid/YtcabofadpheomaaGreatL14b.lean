/-
 Texts in one: L14L L14K L14V.
-/
import Derived.Test.YtcabofadpheomaaGreatL14a
import Derived.Test.YtcabofadpheomaaGreatL10a
import Derived.Test.YtcabofadpheomaaGreatL9a
import Derived.Test.YtcabofadpheomaaGreatL9b
import Derived.Test.YtcabofadpheomaaGreatL6b
import Derived.Test.YtcabofadpheomaaGreatL10b
import Derived.Test.YtcabofadpheomaaGreatL10W

section
namespace Go.Proofs.YtcabofadpheomaaGreat.L1
open Go.Sx Go.Sx.M

def ldN(n:Int):Nat:=(min (max n 0) 64).toNat
def ldX(o n:Int)(x:List En)(p:Nat):Option (List Sl):=ldS o ((ldP x).take p) (emS (ldN n))
def ldA(o n:Int)(x:List En)(p:Nat):List Sl:=(ldX o n x p).getD []
def ldB(o n:Int)(x:List En):Bool:=(ldX o n x x.length).isSome

def pC:List Arg→(Res→Prop)→Prop
 | [.v (.int .i64 o), .v (.int .i64 n), .row r_x],R=>r_x=(deE r_x).map enE∧(deE r_x).length≤1000∧R (.many [.vrow 46 7 ((ldA o n (deE r_x) (deE r_x).length).map slE), .v (.bool (ldB o n (deE r_x)))])
 |_,_=>False

def ya(o n:Int)(x:List En)(p:Nat):St:=
 ⟨[.int .i64 o, .any, .vsl 0 0 (x.map enE).length, .any, .any, .any, .any, .any, .vsl 1 0 ((ldA o n x p).map slE).length, .any, .any, .any, .any, .any, .any, .any, .any, .int .i64 (x.map enE).length, .int .i64 p, .any, .any, .any, .any, .any, .any, .any, .any, .any, .any, .any, .any, .any, .any, .any, .any, .any, .any, .any, .any, .any, .any, .any, .any, .any, .any, .any, .any, .any, .any, .any, .any, .any, .any, .any, .any, .any, .any],[some ⟨false,44,6,true,x.map enE⟩,some ⟨true,46,7,true,(ldA o n x p).map slE⟩]⟩
def Jk:Modes:=⟨[1,0,1,0,0,0,0,0,1,0,0,0,0,0,0,0,0,1,2,0,0,0,0,0,0,0,0,0,0,0,0,0,0,0,0,0,0,0,0,0,0,0,0,0,0,0,0,0,0,0,0,0,0,0,0,0,0],[],[],[8],[]⟩
def LB:Modes:=⟨[1,0,1,0,0,0,0,0,1,0,0,0,0,0,0,0,0,1,1,0,0,0,0,0,0,0,0,0,0,0,0,0,0,0,0,0,0,0,0,0,0,0,0,0,0,0,0,0,0,0,0,0,0,0,0,0,0],[],[],[],[]⟩
def Jl:Modes:=⟨[0,0,0,0,0,0,2,2,1,0,0,0,0,0,0,0,0,0,0,0,0,0,0,0,0,0,0,0,0,0,0,0,0,0,0,0,0,0,0,0,0,0,0,0,0,0,0,0,0,0,0,0,0,0,0,0,0],[],[],[],[]⟩
def Qx(o n:Int)(x:List En)(p:Nat):List Hint:=[.fork [.br false, .nm ((ldA o n x (p+1)).map slE), .nw] []]
def LC(o n:Int)(x:List En)(p:Nat):List Hint:=[.fork [.nw, .nw, .dy, .cell (enE (at' x ((7*p+3)%x.length))),
 .fork [.dy, .cell (enE (at' x p)), .fork [] [.nm ((ldA o n x (p+1)).map slE), .nw]] [.fork [] [.nm ((ldA o n x (p+1)).map slE), .nw]]] []]
def Fl(o n:Int)(x:List En):List Hint:=[.arr, .linv Nat 0 (ya o n x) (fun p=>p≤x.length∧(ldX o n x p).isSome=true) (fun p=>x.length+1-p) Jk LB Jl (fun _=>[]) (LC o n x)]

noncomputable def kZ:List (FuncId×Sx.Spec):=[(37,ey [none,pSl,none] lT),(14,ey [pSl,pWr] na)]

theorem oI(o:Int):∀(xs ys:List En) (l:List Sl),ldS o (xs++ys) l=(ldS o xs l).bind (ldS o ys)
 | [],_,_=>rfl
 |x::r,ys,l=>by
  rw[List.cons_append,ldS,ldS]
  split
  ·exact oI o r ys _
  ·rfl

theorem tu(o:Int):∀(xs:List En) (l m:List Sl),ldS o xs l=some m→m.length=l.length
 | [],l,m,h=>by cases h;rfl
 |x::r,l,m,h=>by
  rw[ldS] at h
  split at h
  ·rw[tu o r _ _ h,gk]
  ·cases h

theorem AK{o n:Int}{x:List En}{p:Nat}(hp:p<x.length):ldX o n x (p+1)=(ldX o n x p).bind (ldS o [at' (ldP x) p]):=by
 unfold ldX
 rw[gX (by rw[oJ];exact hp),oI]

theorem Ji{o n:Int}{x:List En}{p:Nat}(hp:p<x.length){m:List Sl}(hm:ldX o n x p=some m)(h:eO o m (at' (ldP x) p)=0):ldX o n x (p+1)=some (apL m (wO o m (at' (ldP x) p))):=by
 rw[AK hp,hm]
 show ldS o [_] m=_
 rw[ldS,if_pos h,ldS]

theorem Jg{o n:Int}{x:List En}{p:Nat}(hp:p<x.length){m:List Sl}(hm:ldX o n x p=some m)(h:eO o m (at' (ldP x) p)≠0):ldX o n x x.length=none:=by
 have h1:ldX o n x (p+1)=none:=by
  rw[AK hp,hm]
  show ldS o [_] m=_
  rw[ldS,if_neg h]
 have:(ldP x).take x.length=(ldP x).take (p+1)++((ldP x).take x.length).drop (p+1):=by
  have:=(List.take_append_drop (p+1) ((ldP x).take x.length)).symm
  rw[List.take_take,Nat.min_eq_left (by omega)] at this
  exact this
 unfold ldX at h1⊢
 rw[this,oI,h1]
 rfl

theorem O1{x:List En}{p:Nat}(hp:p<x.length):at' (ldP x) p=at' x (ldI x.length p):=by
 unfold ldP at'
 rw[List.getD_eq_getElem?_getD,List.getElem?_map,List.getElem?_range hp]
 rfl

theorem Jh{o n:Int}{x:List En}{p:Nat}(h:(ldX o n x p).isSome=true):ldX o n x p=some (ldA o n x p)∧(ldA o n x p).length=ldN n:=by
 obtain⟨m,hm⟩:=Option.isSome_iff_exists.1 h
 have e:ldA o n x p=m:=by unfold ldA;rw[hm];rfl
 rw[e]
 refine⟨hm, ?_⟩
 have:=tu o _ _ _ hm
 rw[this];exact List.length_replicate

theorem DE(o n:Int)(x:List En)(b:Bool)(L:List AV):run kZ Tryz.prog 10 [.int .i64 o, .int .i64 n, .vsl 0 0 (x.map enE).length] [some ⟨false,44,6,true,x.map enE⟩] (Fl o n x) (eM (.many [.vrow 46 7 L, .v (.bool b)]))=
  (let ah:=ya o n x;let ae:=(7:Nat);let ab:=(1000000:Nat);let Z:=List.map wrE;let Y:=AV.bool;let W:=AV.w64;let V:=(1:Nat);let U:=inRange IntKind.i64;let T:=List.length (List.map enE x);let S:=(64:Int);let O:=Blk.mk true (46:TypeId) ae true;let N:=List.length x;let I:=List.map slE;let C:=Blk.mk false (44:TypeId) (6:Nat) true (List.map enE x);let B:=AV.int IntKind.i64;let z:=(0:Nat);let y:=(0:Int);let K:=W (BitVec.ofInt (64:Nat) y);let D:=if S<if y>n then y else n then S else if y>n then y else n;let u:=Int.toNat D;let t:=(↑T:Int);let ac:=Int.tmod t (7:Int)==y;let s:=AV.any;(((y≤if S<if y>n then y else n then S else if y>n then y else n)∧(D≤if S<if y>n then y else n then S else if y>n then y else n)∧D≤(9223372036854775807:Int)∧((↑(56:Nat):Int)*if S<if y>n then y else n then S else if y>n then y else n)≤(281474976710656:Int)∧z<ae)∧(St.mk [B o,s,AV.vsl z z T,s,s,s,s,s,AV.vsl (z+V) z (u),s,s,s,s,s,s,s,s,B t,B y,s,s,s,s,s,s,s,s,s,s,s,s,s,s,s,s,s,s,s,s,s,s,s,s,s,s,s,s,s,s,s,s,s,s,s,s,s,s] [some C,some (Blk.mk true (46:Nat) ae true (List.replicate (u) (AV.agg [Y false,K,K,K,K,B y,B y])))]=ah z∧z≤N∧true=true)∧∀(a:Nat),let X:=I (ldA o n x a);let P:=(↑a:Int);let ak:=Decidable.decide (P<t);let aa:=P+(1:Int);let J:=(7:Int)*P+(3:Int);let E:=at' x a;let Q:=En.mk E.1 E.2 E.3 E.4 E.5 E.6;let A:=I (ldA o n x (a+V));let ad:=List.length (A);let w:=List.length X;let al:=z+w≤w;let r:=St.mk [B o,s,AV.vsl z z T,s,s,s,s,s,AV.vsl (z+V) z (ad),s,s,s,s,s,s,s,s,B t,B aa,s,s,s,s,s,s,s,s,s,s,s,s,s,s,s,s,s,s,s,s,s,s,s,s,s,s,s,s,s,s,s,s,s,s,s,s,s,s] [some C,some (O (A))];let q:=at' x ((ae*a+(3:Nat))%List.length x);let R:=En.mk q.1 q.2 q.3 q.4 q.5 q.6;let l:=List.take (w) (List.drop z X);let H:=deS (l);let M:=List.length H≤ab;let m:=Z (wO o H Q);let ai:=List.length m;let F:=List.take (ai) (List.drop z m);let af:=deW (F);let k:=Z (wO o H R);let aj:=List.length k;let G:=List.take (aj) (List.drop z k);let ag:=deW (G);a≤N∧(Option.isSome.match_1 (fun (_:Option (List Sl))=>Bool) (ldX o n x a) (fun (_:List Sl)=>true) fun (_:Unit)=>false)=true→(ak=true→U ((7:Int)*P)∧U J∧t≠y∧(y≤Int.tmod J t∧Int.tmod J t<t)∧Blk.read Proofs.Tryz.prog C (44:Nat) (z+Int.toNat (Int.tmod J t)) z=some (AV.agg [W q.1,W q.2,W q.3,W q.4,B q.5,B q.6])∧al∧l=I H∧M∧(ac=true→(y≤P∧P<t)∧Blk.read Proofs.Tryz.prog C (44:Nat) (z+Int.toNat P) z=some (AV.agg [W E.1,W E.2,W E.3,W E.4,B E.5,B E.6])∧al∧l=I H∧M∧((eO o H Q !=y)=true→L=[]∧Y false=Y b∧True)∧((eO o H Q !=y)=false→al∧z+ai≤ai∧l=I H∧M∧F=Z af∧List.length af≤ab∧(I (apL H af)=A∧List.length (I (apL H af))=ad)∧U aa∧∃(e:Nat),r=ah e∧(e≤N∧(Option.isSome.match_1 (fun (_:Option (List Sl))=>Bool) (ldX o n x e) (fun (_:List Sl)=>true) fun (_:Unit)=>false)=true)∧N+V-e<N+V-a))∧(ac=false→((eO o H R !=y)=true→L=[]∧Y false=Y b∧True)∧((eO o H R !=y)=false→al∧z+aj≤aj∧l=I H∧M∧G=Z ag∧List.length ag≤ab∧(I (apL H ag)=A∧List.length (I (apL H ag))=ad)∧U aa∧∃(h:Nat),r=ah h∧(h≤N∧(Option.isSome.match_1 (fun (_:Option (List Sl))=>Bool) (ldX o n x h) (fun (_:List Sl)=>true) fun (_:Unit)=>false)=true)∧N+V-h<N+V-a)))∧(ak=false→(w=List.length L∧some (O X)=some (O L))∧Y true=Y b∧True))):=by kernel_rfl

theorem DF(o n:Int)(x:List En)(hx:x.length≤1000):
  ∃hs,run kZ Tryz.prog 10 [.int .i64 o, .int .i64 n, .vsl 0 0 (x.map enE).length] [some ⟨false,44,6,true,x.map enE⟩] hs (eM (.many [.vrow 46 7 ((ldA o n x x.length).map slE), .v (.bool (ldB o n x))])):=by
 refine⟨(Fl o n x), ?_⟩
 rw[DE];(conv=>zeta)
 have hN:(if (64:Int)<if 0>n then 0 else n then 64 else if 0>n then 0 else n)=(ldN n:Nat):=by
  unfold ldN
  split<;>split<;>omega
 have hN64:ldN n≤64:=by unfold ldN;omega
 rw[hN]
 simp only[eT,fG,FF,zLe,true_and,and_true,eq_self,Int.toNat_natCast]
 refine⟨⟨by omega,Int.le_refl _,by omega,by show (56:Int)*_≤_;omega,by decide⟩,⟨?_,Nat.zero_le _⟩,fun p hp=>⟨fun hlt=> ?_,fun hge=> ?_⟩⟩
 ·have e:ldA o n x 0=emS (ldN n):=rfl
  unfold ya
  rw[e]
  unfold emS
  rw[List.map_replicate,List.length_replicate]
  rfl
 ·obtain⟨hp,hs⟩:=hp
  have hs:(ldX o n x p).isSome=true:=hs
  have hlt:p<x.length:=by have:=of_decide_eq_true hlt;rw[List.length_map] at this;omega
  obtain⟨hm,hml⟩:=Jh hs
  have hz:=O1 hlt
  have hlx:((x.map enE).length:Int)=x.length:=by rw[List.length_map]
  have ht:(7*(p:Int)+3).tmod ((x.map enE).length:Int)=(((7*p+3)%x.length:Nat):Int):=by
   rw[hlx,Int.tmod_eq_emod_of_nonneg (by omega)]
   rfl
  have hr:(7*p+3)%x.length<x.length:=Nat.mod_lt _ (by omega)
  have stop:eO o (ldA o n x p) (at' (ldP x) p)≠0→(ldA o n x x.length).map slE=[]∧AV.bool false=AV.bool (ldB o n x):=fun h=>by
   have:=Jg hlt hm h
   unfold ldA ldB
   rw[this];exact⟨rfl,rfl⟩
  have more:eO o (ldA o n x p) (at' (ldP x) p)=0→apL (ldA o n x p) (wO o (ldA o n x p) (at' (ldP x) p))=ldA o n x (p+1)∧(ldX o n x (p+1)).isSome=true:=fun h=>by
   have:=Ji hlt hm h
   refine⟨?_,by rw[this];rfl⟩
   have e:ldA o n x (p+1)=((ldX o n x (p+1)).getD []):=rfl
   rw[e,this];rfl
  have few:=HM o (ldA o n x p) (at' (ldP x) p)
  have B:0≤(p:Int)∧(p:Int)< ((x.map enE).length:Int):=⟨by omega,by rw[hlx];omega⟩
  have B':0≤(((7*p+3)%x.length:Nat):Int)∧(((7*p+3)%x.length:Nat):Int)< ((x.map enE).length:Int):=⟨by omega,by rw[hlx];omega⟩
  have b3:inRange .i64 ((p:Int)+1):=inR (by omega) (by omega)
  rw[ht]
  have go:∀y:En,at' (ldP x) p=y→((eO o (ldA o n x p) y !=0)=true→(ldA o n x x.length).map slE=[]∧AV.bool false=AV.bool (ldB o n x))∧((eO o (ldA o n x p) y !=0)=false→(wO o (ldA o n x p) y).length≤1000000∧apL (ldA o n x p) (wO o (ldA o n x p) y)=ldA o n x (p+1)∧(ldX o n x (p+1)).isSome=true):=fun y hy=>by
   subst hy
   refine⟨fun h=>stop (by simpa using h),fun h=> ?_⟩
   have h:eO o (ldA o n x p) (at' (ldP x) p)=0:=by simpa using h
   exact⟨by omega,more h⟩
  refine⟨inR (by omega) (by omega),inR (by omega) (by omega),by omega,B',eL B'.1 B'.2 (fK _),by omega,fun h7=> ?_,fun h7=> ?_⟩
  ·have h7:x.length%7=0:=by
    have h7:((x.map enE).length:Int).tmod 7=0:=by simpa using h7
    rw[hlx,Int.tmod_eq_emod_of_nonneg (by omega)] at h7
    omega
   obtain⟨g1,g2⟩:=go (at' x p) (by rw[hz];unfold ldI;rw[if_pos h7])
   refine⟨B,eL B.1 B.2 (fK _),by omega,g1,fun h=> ?_⟩
   obtain⟨h1,h2,h3⟩:=g2 h
   exact⟨by omega,h1,⟨congrArg (List.map slE) h2,congrArg (fun l=>(List.map slE l).length) h2⟩,b3,p+1,rfl,⟨hlt,h3⟩,by omega⟩
  ·have h7:¬x.length%7=0:=by
    have h7:¬((x.map enE).length:Int).tmod 7=0:=by simpa using h7
    rw[hlx,Int.tmod_eq_emod_of_nonneg (by omega)] at h7
    omega
   obtain⟨g1,g2⟩:=go (at' x ((7*p+3)%x.length)) (by rw[hz];unfold ldI;rw[if_neg h7])
   refine⟨g1,fun h=> ?_⟩
   obtain⟨h1,h2,h3⟩:=g2 h
   exact⟨by omega,h1,⟨congrArg (List.map slE) h2,congrArg (fun l=>(List.map slE l).length) h2⟩,b3,p+1,rfl,⟨hlt,h3⟩,by omega⟩
 ·obtain⟨hp,hs⟩:=hp
  have hge:p=x.length:=by have:=of_decide_eq_false hge;rw[List.length_map] at this;omega
  subst hge
  have hs:(ldX o n x x.length).isSome=true:=hs
  unfold ldB
  rw[hs]
  exact⟨⟨rfl,rfl⟩,rfl⟩

set_option maxRecDepth 1000000 in
theorem qA(h:∀e∈kZ,eJ Tryz.prog e.1 e.2):eJ Tryz.prog 10 (ey [none,none,pEn] pC):=by
 refine eK (eS (l:=kZ) h mixed noNG) fun l R hF=> ?_
 unfold pC at hF
 split at hF
 ·rename_i o n r_x
  obtain⟨hr_x,hx,hF⟩:=hF
  generalize deE r_x=x at hr_x hx hF
  subst hr_x
  obtain⟨hs,r⟩:=DF o n x hx
  exact⟨_,hF,rfl,hs,r⟩
 ·exact hF.elim

end Go.Proofs.YtcabofadpheomaaGreat.L1
end

section
namespace Go.Proofs.YtcabofadpheomaaGreat.L1
open Go.Sx Go.Sx.M

theorem P3{x y:En}(h:rtE x=true):rtE (jnE x y)=true:=by
 unfold rtE at h⊢
 unfold jnE
 rw[Bool.and_eq_true] at h⊢
 refine⟨?_,h.2⟩
 show ((x.v&&&(x.m^^^(x.v^^^y.v)&&&x.m))&&&(x.m^^^(x.v^^^y.v)&&&x.m)==x.v&&&(x.m^^^(x.v^^^y.v)&&&x.m)&&_&&&_==_)=true
 rw[BitVec.and_assoc,BitVec.and_self,BitVec.and_assoc,BitVec.and_self,beq_self_eq_true,beq_self_eq_true]
 rfl

theorem Ad{r:Ro}(h:riR 128 r=true):rtE (fu r)=true:=by
 unfold riR at h
 rw[Bool.and_eq_true] at h
 have hl:=kB h.1 (Int.le_refl _)
 obtain⟨_,h0,h1,_⟩:=jd.1 h.1
 unfold rtE
 rw[hl,show (fu r).act=r.act from rfl,h.2,Bool.and_eq_true]
 refine⟨?_, ?_⟩
 ·show ((r.p.a&&&mkW r.p.len)&&&mkW r.p.len==r.p.a&&&mkW r.p.len&&(r.p.b&&&mkW (r.p.len-64))&&&mkW (r.p.len-64)==r.p.b&&&mkW (r.p.len-64))=true
  rw[BitVec.and_assoc,BitVec.and_self,BitVec.and_assoc,BitVec.and_self,beq_self_eq_true,beq_self_eq_true]
  rfl
 ·rw[decide_eq_true h0,decide_eq_true h1];rfl

theorem MM{r:Ro}(h:riR 128 r=true):PfE (fu r):=by
 unfold riR at h
 rw[Bool.and_eq_true] at h
 intro k hk
 rw[kB h.1 (Int.le_refl _)]
 exact iz _ hk

theorem Kz{l:List Ro}(h:TB 128 l)(k:Int):∀e∈bdE l k,rtE e=true:=fun e he=>by
 have base:∀{l:List Ro},TB 128 l→∀e∈srE (l.map fu),rtE e=true:=fun h e he=>by
  obtain⟨r,hr,rfl⟩:=List.mem_map.1 ((e9 _).mem_iff.1 he)
  exact Ad (h.right r hr)
 unfold bdE at he
 split at he
 ·exact base h e he
 ·split at he
  ·exact base (kF h) e he
  ·split at he
   ·refine py (Q:=fun l=>∀e∈l,rtE e=true) (fun l x y r _ hp hq e he=> ?_) _ (base (kF h)) e he
    rcases List.mem_cons.1 ((e9 _).mem_iff.1 he) with rfl|he
    ·exact P3 (hq x (hp.mem_iff.2 List.mem_cons_self))
    ·exact hq e (hp.mem_iff.2 (List.mem_cons_of_mem _ (List.mem_cons_of_mem _ he)))
   ·cases he

theorem FW{l:List Ro}(h:TB 128 l){k:Int}(hk:k≠2):∀e∈bdE l k,PfE e:=fun e he=>by
 have base:∀{l:List Ro},TB 128 l→∀e∈srE (l.map fu),PfE e:=fun h e he=>by
  obtain⟨r,hr,rfl⟩:=List.mem_map.1 ((e9 _).mem_iff.1 he)
  exact MM (h.right r hr)
 unfold bdE at he
 split at he
 ·exact base h e he
 ·split at he
  ·exact base (kF h) e he
  ·cases he

theorem qb{l:List Ro}(h:TB 128 l)(hl:l.length≤10){o k n:Int}(ho:isO o=true)(hk:o=1→k≠2):
  (ldB o n (bdE l k)=true↔(bdE l k).length≤ldN n)∧(ldB o n (bdE l k)=true→
   (ldA o n (bdE l k) (bdE l k).length).length=ldN n∧OrB (ji o) (ldA o n (bdE l k) (bdE l k).length)∧RtL (ldA o n (bdE l k) (bdE l k).length)∧(ensS (ldA o n (bdE l k) (bdE l k).length)).Perm (bdE l k)):=by
 have hx:(bdE l k).length≤10:=Nat.le_trans (oY l k) hl
 obtain⟨h1,h2⟩:=Jf ho (n:=ldN n) hx (Kz h k) fun e=>FW h (hk e)
 have e:ldX o n (bdE l k) (bdE l k).length=ldS o (ldP (bdE l k)) (emS (ldN n)):=by
  unfold ldX
  rw[List.take_of_length_le (by rw[oJ];exact Nat.le_refl _)]
 have eB:ldB o n (bdE l k)=true↔∃m,ldS o (ldP (bdE l k)) (emS (ldN n))=some m:=by
  unfold ldB
  rw[e,Option.isSome_iff_exists]
 refine⟨eB.trans h1,fun hb=> ?_⟩
 obtain⟨m,hm⟩:=eB.1 hb
 have:ldA o n (bdE l k) (bdE l k).length=m:=by unfold ldA;rw[e,hm];rfl
 rw[this]
 exact h2 m hm

theorem FV{l:List Ro}(h:TB 128 l){o k:Int}(h0:0≤k)(h1:k≤2){m:List Sl}(hm:OrB (ji o) m)(hp:(ensS m).Perm (bdE l k))(c d:BitVec 64):tlS m c d=tlR l c d:=by
 obtain⟨a,_,b⟩:=rX h h0 h1
 have hs:siE (ensS m)=true:=by rw[gY hp];exact a
 rw[mB (zi hm),ig hp (fS hs c d),b]

end Go.Proofs.YtcabofadpheomaaGreat.L1
end

section
namespace Go.Proofs.YtcabofadpheomaaGreat.L1
open Go.Sx Go.Sx.M

theorem l9:∀e∈ju,eJ Tryz.prog e.1 e.2:=by
 intro e he
 simp only[ju,List.mem_cons,List.not_mem_nil,or_false] at he
 rcases he with rfl|rfl|rfl|rfl|rfl
 ·exact J0
 ·exact wj
 ·exact AZ
 ·exact ko
 ·exact tL

theorem mP:∀e∈kZ,eJ Tryz.prog e.1 e.2:=by
 intro e he
 simp only[kZ,List.mem_cons,List.not_mem_nil,or_false] at he
 rcases he with rfl|rfl
 ·exact pM
 ·exact oO

end Go.Proofs.YtcabofadpheomaaGreat.L1
end

