/-
 Texts in one: L12T L12P L12R.
-/
import Derived.Test.YtcabofadpheomaaGreatL8a
import Derived.Test.YtcabofadpheomaaGreatL5a
import Derived.Test.YtcabofadpheomaaGreatSxU
import Derived.Test.YtcabofadpheomaaGreatMa

section
namespace Go.Proofs.YtcabofadpheomaaGreat.L1
open Go.Sx Go.Sx.M

def mW:List Arg→(Res→Prop)→Prop
 | [.row r_l],R=>r_l=(deS r_l).map slE∧(deS r_l).length≤1000000∧R (.v (.bool (kpS (deS r_l))))
 |_,_=>False

def yD:List Arg→(Res→Prop)→Prop
 | [.row r_l, .v (.int .i64 n)],R=>r_l=(deS r_l).map slE∧(deS r_l).length≤1000000∧R (.v (.tuple [.int .i64 (if kpS (deS r_l) then (gfS (deS r_l) n:Int) else 0), .int .i64 (if kpS (deS r_l) then (gtS (deS r_l) n:Int) else 0)]))
 |_,_=>False

def tK:List Arg→(Res→Prop)→Prop
 | [.row r_l],R=>r_l=(deS r_l).map slE∧(deS r_l).length≤1000000∧R (.v (.int .i64 (lnS (deS r_l) (deS r_l).length)))
 |_,_=>False

def oN:List Arg→(Res→Prop)→Prop
 | [.row r_l, .v (.agg [.w64 v, .w64 w, .w64 m, .w64 n, .int .i64 k, .int .i64 j])],R=>r_l=(deS r_l).map slE∧(deS r_l).length≤1000000∧R (.many [.vrow 48 8 ((inW (deS r_l) ⟨v,w,m,n,k,j⟩).map wrE), .v (.int .i64 (inE (deS r_l) ⟨v,w,m,n,k,j⟩))])
 |_,_=>False

end Go.Proofs.YtcabofadpheomaaGreat.L1
end

section
namespace Go.Proofs.YtcabofadpheomaaGreat.L1
open Go.Sx Go.Sx.M

def pq(l:List Sl):Option Blk:=some ⟨false,46,7,true,l.map slE⟩
def wiA(x:Int):AV:= .int .i64 x
def wiR(w:List Int):List AV:=List.map wiA w
def wAt(w:List Int)(i:Nat):Int:=w.getD i 0
def ppR(w:List Wr):List AV:=List.map wrE w

def pE(l:List Sl):List AV:=List.map enE (ensS l)
def Oq:AV:= .func (.func 97) [] []
def yd(l:List Sl)(k:Nat):St:=⟨[.vsl 1 0 (pE l).length,Oq, .any, .any, .any, .int .i64 ((k:Int)-1), .any, .any, .any, .any, .any, .any, .any, .any, .any, .any, .any, .any, .any, .any, .any, .any, .any, .any, .any],[pq l,some ⟨true,44,6,true,pE l⟩]⟩
def Fo(l:List Sl)(k:Nat):Prop:=k≤(pE l).length∧∀j,k≤j+1→j+1< (ensS l).length→(at' (ensS l) (j+1)).len≤(at' (ensS l) j).len
def MY:Modes:=⟨[1,1,0,0,0,1,0,0,0,0,0,0,0,0,0,0,0,0,0,0,0,0,0,0,0],[],[],[],[]⟩
def Oo:Modes:=⟨[0,0,0,0,2,0,0,0,0,0,0,0,0,0,0,0,0,0,0,0,0,0,0,0,0],[],[],[],[]⟩
def MZ(l:List Sl):List Hint:=[.nm (pE l), .nw, .linv _ (pE l).length (yd l) (Fo l) (fun k=>k) MY MY Oo (fun _=>[]) fun k=>
 [.fork [.dy, .cell (enE (at' (ensS l) (k-1))), .nw, .dy, .cell (enE (at' (ensS l) (k-2))), .fork [] [.nw]] []]]

def tH(l:List Sl)(n:Int)(k:Nat):St:=⟨[.any, .int .i64 n, .any, .any, .any, .any, .int .i64 (gpF l n k), .int .i64 (l.map slE).length, .any, .any, .any, .any, .any, .any, .any, .vsl 0 0 (l.map slE).length, .int .i64 (l.map slE).length, .int .i64 k, .any, .any, .any, .any, .any, .any, .any, .any, .any, .any, .any, .any, .any, .any, .any, .any, .any, .any, .any, .any, .any, .any, .any, .any, .any, .any, .any, .any],[pq l]⟩
def JF(l:List Sl)(n:Int)(k:Nat):Prop:=k≤l.length∧∀j,j<k→shS n (at' l j)=false
def Ov:Modes:=⟨[0,1,0,0,0,0,2,1,0,0,0,0,0,0,0,1,1,2,0,0,0,0,0,0,0,0,0,0,0,0,0,0,0,0,0,0,0,0,0,0,0,0,0,0,0,0],[],[],[],[]⟩
def P5:Modes:=⟨[0,1,0,0,0,0,1,1,0,0,0,0,0,0,0,1,1,1,0,0,0,0,0,0,0,0,0,0,0,0,0,0,0,0,0,0,0,0,0,0,0,0,0,0,0,0],[],[],[],[]⟩
def Ow:Modes:=⟨[0,0,0,0,0,0,1,1,0,0,0,0,0,0,0,0,0,0,0,0,0,0,0,0,0,0,0,0,0,0,0,0,0,0,0,0,0,0,0,0,0,0,0,0,0,0],[],[],[],[]⟩
def M4(l:List Sl)(n:Int):List Hint:=[.fork [] [.linv _ 0 (tH l n) (JF l n) (fun k=>l.length+1-k) Ov P5 Ow (fun _=>[]) fun k=>
 [.fork [.dy, .cell (slE (at' l k)), .fork [.fork [.nw, .br true, .br false, .nw] [.br true, .fork [] [.nw]]] [.br false, .nw]] []]]]

def OE:AV:= .func (.func 148) [] []
def Ef(l:List Sl)(p:Nat):St:=⟨[.vsl 0 0 (l.map slE).length,OE, .any, .any, .any, .any, .any, .int .i64 (l.map slE).length, .int .i64 p, .any, .any, .any, .any, .any, .any, .any, .any, .any, .any],[pq l]⟩
def Fz(l:List Sl)(p:Nat):Prop:=p≤l.length∧∀j,j<p→(at' l j).ok=true
def OC:Modes:=⟨[1,1,0,0,0,0,0,1,2,0,0,0,0,0,0,0,0,0,0],[],[],[],[]⟩
def P9:Modes:=⟨[1,1,0,0,0,0,0,1,1,0,0,0,0,0,0,0,0,0,0],[],[],[],[]⟩
def OD:Modes:=⟨[0,0,0,0,2,0,0,0,0,0,0,0,0,0,0,0,0,0,0],[],[],[],[]⟩
def M7(l:List Sl):List Hint:=[.linv _ 0 (Ef l) (Fz l) (fun p=>l.length+1-p) OC P9 OD (fun _=>[]) fun p=>
 [.fork [.dy, .cell (slE (at' l p)), .fork [] [.nw]] []]]
def tr(l:List Sl)(y:Nat)(k:Nat):St:=⟨[.func (.yield y) [] [], .ptr 2 0 0 true, .any, .int .i64 ((k:Int)-1), .any, .any, .any, .any, .any, .any, .any, .any, .any, .any, .any, .any, .any, .any, .any],[pq l,some ⟨true,3,1,true,[.lit (.int .i64 0)]⟩,some ⟨true,31,1,false,[.vsl 0 0 (l.map slE).length]⟩]⟩
def Fh(l:List Sl)(k:Nat):Prop:=k≤l.length∧∀j,k≤j→j<l.length→(at' l j).ok=true
def MW:Modes:=⟨[1,1,0,1,0,0,0,0,0,0,0,0,0,0,0,0,0,0,0],[],[],[],[]⟩
def Om:Modes:=⟨[1,1,0,0,0,0,0,0,0,0,0,0,0,0,0,0,0,0,0],[],[],[],[]⟩
def MX(l:List Sl):List Hint:=[.inl fun y=>[.nw, .linv _ l.length (tr l y) (Fh l) (fun k=>k) MW MW Om (fun _=>[]) fun k=>
 [.fork [.dy, .cell (slE (at' l (k-1))), .fork [] [.nw]] []]]]

def r9(l:List Sl)(t e s:Int)(q:List Int×Nat):St:=⟨[.vsl 0 0 (l.map slE).length, .any, .int .i64 e, .int .i64 s, .any, .any, .any, .any, .any, .vsl 1 0 q.1.length, .int .i64 (t+s*((q.2:Int)+1)), .any, .any, .any, .any, .any, .any, .any, .any, .any, .any, .any, .any, .any, .any, .any, .any, .any, .any, .any, .any, .any, .any, .any, .any, .any, .any, .any, .any, .any, .any, .any, .any, .any, .any],[pq l,some ⟨true,3,1,true,wiR q.1⟩]⟩
def wyN(t e:Int):Nat:=(e-t).natAbs-1
def HB(l:List Sl)(t s:Int)(N:Nat)(q:List Int×Nat):Prop:=q.2≤N∧q.1++wyS l t s q.2 (N-q.2)=wyL l t s N
def Nq:Modes:=⟨[1,0,1,1,0,0,0,0,0,1,1,0,0,0,0,0,0,0,0,0,0,0,0,0,0,0,0,0,0,0,0,0,0,0,0,0,0,0,0,0,0,0,0,0,0],[],[],[9],[]⟩
def Pb:Modes:=⟨[1,0,1,1,0,0,0,0,0,1,1,0,0,0,0,0,0,0,0,0,0,0,0,0,0,0,0,0,0,0,0,0,0,0,0,0,0,0,0,0,0,0,0,0,0],[],[],[],[]⟩
def Nr:Modes:=⟨[0,0,1,0,0,0,0,0,0,1,0,0,0,0,0,0,0,0,0,0,0,0,0,0,0,0,0,0,0,0,0,0,0,0,0,0,0,0,0,0,0,0,0,0,0],[],[],[],[]⟩
def MA(l:List Sl)(t s:Int)(d:Nat):AV:= .int .i64 (wyF l t s d)
def MC(l:List Sl)(t e s:Int):List Hint:=[.nw, .linv _ ([t],0) (r9 l t e s) (HB l t s (wyN t e)) (fun q=>wyN t e-q.2) Nq Pb Nr (fun _=>[.rows (wiR (wyL l t s (wyN t e)))]) fun q=>
 [.fork [.dy, .cell (MA l t s (q.2+1)), .nw, .dy, .cell (MA l t s (q.2+2)), .fork [.rows (wiR (q.1++[wyP t s (q.2+1)])), .nw] [.nw]] []]]

def D3:List Arg→(Res→Prop)→Prop
 | [.row r_l],R=>r_l=(deS r_l).map slE∧(deS r_l).length≤1000000∧R (.v (.int .i64 (geS (deS r_l) (deS r_l).length 0)))
 |_,_=>False

def DU:List Arg→(Res→Prop)→Prop
 | [.row r_l],R=>r_l=(deS r_l).map slE∧(deS r_l).length≤1000000∧R (.v (.int .i64 (upS (deS r_l) (deS r_l).length)))
 |_,_=>False

def yj:List Arg→(Res→Prop)→Prop
 | [.row r_l, .v (.int .i64 t), .v (.int .i64 e), .v (.int .i64 s)],R=>r_l=(deS r_l).map slE∧(deS r_l).length≤1000000∧
   ((0≤t∧t< (deS r_l).length∧0≤e∧e< (deS r_l).length)∧((s=1∧t<e)∨(s= -1∧e<t)))∧R (.vrow 3 1 (wiR (wyL (deS r_l) t s (wyN t e))))
 |_,_=>False

def qD:List Arg→(Res→Prop)→Prop
 | [.row r_l, .v (.int .i64 n)],R=>r_l=(deS r_l).map slE∧(deS r_l).length≤1000000∧(kpS (deS r_l)=true∧¬(inG (deS r_l) n<0∧dnG (deS r_l) n<0∧upG (deS r_l) n<0))∧R (.vrow 3 1 (wiR (wsL (deS r_l) n)))
 |_,_=>False

theorem EQ(x:Sl):e7 Tryz.prog 3 (slE x).cells 5=some (.int .i64 x.e.len):=by kernel_rfl

noncomputable def lj:List (FuncId×Sx.Spec):=[(54,ey [pSl] jJ),
 (98,ey [none,none] FJ)]

theorem Bh(l:List Sl)(r:AV):run lj Tryz.prog 58 [.vsl 0 0 (l.map slE).length] [some ⟨false,(pSl.getD (0,0)).1,(pSl.getD (0,0)).2,true,(l.map slE)⟩] (MZ l) (eM (.v r))=
  (let A:=(0:Int);let x:=AV.w64;let s:=inRange IntKind.i64;let o:=List.map slE l;let B:=List.length o;let n:=(0:Nat);let k:=AV.int IntKind.i64;let i:=(1:Int);let h:=Blk.mk true (44:TypeId) (6:Nat) true (pE l);let m:=[some (Blk.mk false (46:TypeId) (7:Nat) true o),some h];let g:=List.length (pE l);let z:=AV.vsl (n+(1:Nat)) n (g);let u:=(↑(g):Int);let f:=AV.any;let c:=List.take (B) (List.drop n o);let y:=List.map enE (ensS (deS (c)));(n+B≤B∧c=List.map slE (deS (c))∧List.length (deS (c))≤(1000000:Nat)∧(y=pE l∧List.length (y)=g)∧s (u-i)∧(St.mk [z,AV.func (Fn.func (97:Nat)) [] [],f,f,f,k (u-i),f,f,f,f,f,f,f,f,f,f,f,f,f,f,f,f,f,f,f] m=yd l (g)∧Fo l (g))∧∀(a:Nat),let j:=(↑a:Int);let w:=j-i-i;let t:=Decidable.decide (j-i>A);let e:=at' (ensS l) (a-(2:Nat));let d:=at' (ensS l) (a-(1:Nat));let q:=Decidable.decide (jS e.5 d.5<A);Fo l a→(t=true→(A≤j-i∧j-i<u)∧Blk.read Proofs.Tryz.prog h (44:Nat) (n+Int.toNat (j-i)) n=some (AV.agg [x d.1,x d.2,x d.3,x d.4,k d.5,k d.6])∧s w∧(A≤j-i-i∧j-i-i<u)∧Blk.read Proofs.Tryz.prog h (44:Nat) (n+Int.toNat w) n=some (AV.agg [x e.1,x e.2,x e.3,x e.4,k e.5,k e.6])∧(q=true→AV.bool false=r)∧(q=false→s w∧∃(b:Nat),St.mk [z,AV.func (Fn.func (97:FuncId)) [] [],f,f,f,k w,f,f,f,f,f,f,f,f,f,f,f,f,f,f,f,f,f,f,f] m=yd l b∧Fo l b∧b<a))∧(t=false→AV.bool true=r))):=by kernel_rfl

theorem yy:∀e∈lj,eJ Tryz.prog e.1 e.2:=by
 intro e he
 simp only[lj,List.mem_cons,List.not_mem_nil,or_false] at he
 rcases he with rfl|rfl
 ·exact lX
 ·exact FI

theorem oL:eJ Tryz.prog 58 (ey [pSl] mW):=by
 refine eK (eS (l:=lj) yy mixed noNG) fun l R hF=> ?_
 unfold mW at hF
 split at hF
 ·rename_i r_l
  obtain⟨hr_l,hl,hF⟩:=hF
  generalize deS r_l=l at hr_l hl hF
  subst hr_l
  refine⟨_,hF,rfl,(MZ l), ?_⟩
  show run lj Tryz.prog _ [.vsl 0 0 (l.map slE).length] [some ⟨false,(pSl.getD (0,0)).1,(pSl.getD (0,0)).2,true,(l.map slE)⟩] _ _
  rw[Bh];(conv=>zeta)
  have hE:(List.map enE (ensS l)).length=(ensS l).length:=List.length_map _
  have hE2:(pE l).length=(ensS l).length:=List.length_map _
  have hEl:(ensS l).length≤l.length:=fJ l
  simp only[eT,fG,zLe,true_and,hl]
  refine⟨⟨rfl,rfl⟩,inR (by omega) (by omega),⟨rfl,Nat.le_refl _,fun j h1 h2=>by omega⟩, ?_⟩
  rintro p ⟨hp0,hI⟩
  refine⟨fun hgt=> ?_,fun hle=> ?_⟩
  ·have hp:1<p:=by have:=of_decide_eq_true hgt;omega
   have e1:((p:Int)-1).toNat=p-1:=by omega
   have e2:((p:Int)-1-1).toNat=p-2:=by omega
   have B1:0≤(p:Int)-1∧(p:Int)-1< ((List.map enE (ensS l)).length:Int):=by omega
   have B2:0≤(p:Int)-1-1∧(p:Int)-1-1< ((List.map enE (ensS l)).length:Int):=by omega
   have i2:inRange .i64 ((p:Int)-1-1):=inR (by omega) (by omega)
   have hc:jS (at' (ensS l) (p-2)).len (at' (ensS l) (p-1)).len<0↔(at' (ensS l) (p-2)).len< (at' (ensS l) (p-1)).len:=by
    unfold jS
    split
    ·omega
    ·split<;>omega
   refine⟨B1,eL B1.1 B1.2 (by rw[e1];exact fK _),i2,B2,eL B2.1 B2.2 (by rw[e2];exact fK _),fun h=> ?_,fun h=>⟨i2,p-1, ?_,⟨by omega,fun j h1 h2=> ?_⟩,by omega⟩⟩
   ·have h:=hc.1 (of_decide_eq_true h)
    cases hk:kpS l with
    |false=>rfl
    |true=>
     have:=AL.1 hk (p-2) (by omega)
     rw[show p-2+1=p-1 from by omega] at this
     omega
   ·unfold yd
    rw[show ((p-1:Nat):Int)-1=(p:Int)-1-1 from by omega]
    rfl
   ·rcases Nat.lt_or_ge (j+1) p with hj|hj
    ·have h:¬(at' (ensS l) (p-2)).len< (at' (ensS l) (p-1)).len:=fun x=>of_decide_eq_false h (hc.2 x)
     obtain rfl:j=p-2:=by omega
     rw[show p-2+1=p-1 from by omega]
     omega
    ·exact hI j hj h2
  ·have hp:p≤1:=by have:=of_decide_eq_false hle;omega
   rw[AL.2 fun j hj=>hI j (by omega) hj]
 ·exact hF.elim

noncomputable def mZ:List (FuncId×Sx.Spec):=[(58,ey [pSl] mW)]

theorem DY(l:List Sl)(n:Int)(r:AV):run mZ Tryz.prog 122 [.vsl 0 0 (l.map slE).length, .int .i64 n] [some ⟨false,(pSl.getD (0,0)).1,(pSl.getD (0,0)).2,true,(l.map slE)⟩] (M4 l n) (eM (.v r))=
  (let E:=tH l n;let C:=JF l n;let B:=(0:Int);let A:=List.map slE l;let z:=(1:Nat);let t:=List.length l;let q:=(0:Nat);let j:=Blk.mk false (46:TypeId) (7:Nat) true A;let h:=AV.int IntKind.i64;let g:=AV.any;let f:=List.length A;let D:=AV.vsl q q (f);let o:=(↑(f):Int);let i:=List.take (f) (List.drop q A);let G:=deS (i);(q+f≤f∧i=List.map slE G∧List.length G≤(1000000:Nat)∧((!kpS G)=true→AV.tuple [h B,h B]=r)∧((!kpS G)=false→(St.mk [g,h n,g,g,g,g,h B,h o,g,g,g,g,g,g,g,D,h o,h B,g,g,g,g,g,g,g,g,g,g,g,g,g,g,g,g,g,g,g,g,g,g,g,g,g,g,g,g] [some j]=E q∧C q)∧∀(a:Nat),let y:=h (↑(gpF l n a):Int);let x:=at' l a;let u:=(↑a:Int);let H:=Decidable.decide (u<o);let m:=u+(1:Int);let s:=inRange IntKind.i64 m;let k:=Sl.e x;let F:=Decidable.decide (k.5>n);let w:=Decidable.decide (k.5<n);let e:=St.mk [g,h n,g,g,g,g,y,h o,g,g,g,g,g,g,g,D,h o,h m,g,g,g,g,g,g,g,g,g,g,g,g,g,g,g,g,g,g,g,g,g,g,g,g,g,g,g,g] [some j];C a→(H=true→(B≤u∧u<o)∧Blk.read Proofs.Tryz.prog j (46:Nat) (q+Int.toNat u) q=some (AV.agg [AV.bool x.1,AV.w64 k.1,AV.w64 k.2,AV.w64 k.3,AV.w64 k.4,h k.5,h k.6])∧(x.1=true→(F=true→s∧x.1=true∧w=false∧s∧∃(b:Nat),St.mk [g,h n,g,g,g,g,h m,h o,g,g,g,g,g,g,g,D,h o,h m,g,g,g,g,g,g,g,g,g,g,g,g,g,g,g,g,g,g,g,g,g,g,g,g,g,g,g,g] [some j]=E b∧C b∧t+z-b<t+z-a)∧(F=false→x.1=true∧(w=true→AV.tuple [y,h u]=r)∧(w=false→s∧∃(c:Nat),e=E c∧C c∧t+z-c<t+z-a)))∧(x.1=false→x.1=false∧s∧∃(d:Nat),e=E d∧C d∧t+z-d<t+z-a))∧(H=false→AV.tuple [y,h o]=r)))):=by kernel_rfl

theorem Bn:∀e∈mZ,eJ Tryz.prog e.1 e.2:=by
 intro e he
 simp only[mZ,List.mem_cons,List.not_mem_nil,or_false] at he
 rcases he with rfl
 ·exact oL

theorem Hc:eJ Tryz.prog 122 (ey [pSl,none] yD):=by
 refine eK (eS (l:=mZ) Bn mixed noNG) fun l R hF=> ?_
 unfold yD at hF
 split at hF
 ·rename_i r_l n
  obtain⟨hr_l,hl,hF⟩:=hF
  generalize deS r_l=l at hr_l hl hF
  subst hr_l
  refine⟨_,hF,rfl,(M4 l n), ?_⟩
  show run mZ Tryz.prog _ [.vsl 0 0 (l.map slE).length, .int .i64 n] [some ⟨false,(pSl.getD (0,0)).1,(pSl.getD (0,0)).2,true,(l.map slE)⟩] _ _
  rw[DY];(conv=>zeta)
  have hlm:(l.map slE).length=l.length:=List.length_map _
  simp only[eT,fG,zLe,true_and,hl]
  refine⟨fun h=> ?_,fun h=> ?_⟩
  ·rw[kg h];rfl
  have hk:=iR h
  have hK:=nQ.1 hk
  refine⟨⟨rfl,Nat.zero_le _,fun j hj=>absurd hj (Nat.not_lt_zero _)⟩, ?_⟩
  rintro p ⟨hp0,hI⟩
  have i0:inRange .i64 ((p:Int)+1):=inR (by omega) (by omega)
  refine⟨fun hlt=> ?_,fun hge=> ?_⟩
  ·have hp:p<l.length:=by have:=of_decide_eq_true hlt;omega
   have B:0≤(p:Int)∧(p:Int)< ((l.map slE).length:Int):=by omega
   have g1:gpF l n (p+1)=if loS n (at' l p) then p+1 else gpF l n p:=rfl
   have nx:shS n (at' l p)=false→JF l n (p+1):=fun h=>⟨hp,fun j hj=>by
    rcases Nat.lt_or_ge j p with h1|h1
    ·exact hI j h1
    ·obtain rfl:j=p:=by omega
     exact h⟩
   refine⟨B,eL B.1 B.2 (fX _),fun ho=>⟨fun hgt=>⟨i0,ho, ?_,i0,p+1, ?_,nx ?_,by omega⟩,fun hng=>⟨ho,fun hsh=> ?_,fun hns=>⟨i0,p+1, ?_,nx ?_,by omega⟩⟩⟩,fun ho=>⟨ho,i0,p+1, ?_,nx (ER ho),by omega⟩⟩
   ·have:=of_decide_eq_true hgt
    exact decide_eq_false (by omega)
   ·have:loS n (at' l p)=true:=by unfold loS;rw[show (at' l p).ok=true from ho];exact hgt
    rw[if_pos this] at g1
    unfold tH
    rw[g1];rfl
   ·have:=of_decide_eq_true hgt
    unfold shS
    rw[decide_eq_false (by omega),Bool.and_false]
   ·have hs:shS n (at' l p)=true:=by unfold shS;rw[show (at' l p).ok=true from ho];exact hsh
    rw[hk,if_pos rfl,if_pos rfl,P4 hs hI,P6 (by omega) (GW hK hs)]
   ·have:loS n (at' l p)=false:=by unfold loS;rw[show (at' l p).ok=true from ho];exact hng
    rw[if_neg (by rw[this];simp)] at g1
    unfold tH
    rw[g1];rfl
   ·unfold shS
    rw[show (at' l p).ok=true from ho];exact hns
   ·rw[if_neg (by rw[Fg ho];simp)] at g1
    unfold tH
    rw[g1];rfl
  ·have hp:p=l.length:=by have:=of_decide_eq_false hge;omega
   subst hp
   rw[hk,if_pos rfl,if_pos rfl,Ou hI,hlm]
   rfl
 ·exact hF.elim

theorem Hf(l:List Sl)(r:AV):run [] Tryz.prog 123 [.vsl 0 0 (l.map slE).length] [some ⟨false,(pSl.getD (0,0)).1,(pSl.getD (0,0)).2,true,(l.map slE)⟩] (M7 l) (eM (.v r))=
  (let i:=(0:Nat);let f:=AV.int IntKind.i64;let e:=AV.any;let d:=Blk.mk false (46:TypeId) (7:Nat) true (List.map slE l);let c:=List.length (List.map slE l);let j:=(↑c:Int);((St.mk [AV.vsl i i c,AV.func (Fn.func (148:Nat)) [] [],e,e,e,e,e,f j,f (0:Int),e,e,e,e,e,e,e,e,e,e] [some d]=Ef l i∧Fz l i)∧∀(a:Nat),let k:=at' l a;let h:=(↑a:Int);let m:=Decidable.decide (h<j);let g:=Sl.e k;Fz l a→(m=true→((0:Int)≤h∧h<j)∧Blk.read Proofs.Tryz.prog d (46:Nat) (i+Int.toNat h) i=some (AV.agg [AV.bool k.1,AV.w64 g.1,AV.w64 g.2,AV.w64 g.3,AV.w64 g.4,f g.5,f g.6])∧((!k.1)=true→f h=r)∧((!k.1)=false→inRange IntKind.i64 (h+(1:Int))∧∃(b:Nat),St.mk [AV.vsl i i c,AV.func (Fn.func (148:FuncId)) [] [],e,e,e,e,e,f j,f (h+(1:Int)),e,e,e,e,e,e,e,e,e,e] [some d]=Ef l b∧Fz l b∧List.length l+(1:Nat)-b<List.length l+(1:Nat)-a))∧(m=false→f (-1:Int)=r))):=by kernel_rfl

theorem JI:eJ Tryz.prog 123 (ey [pSl] D3):=by
 refine eK fq fun l R hF=> ?_
 unfold D3 at hF
 split at hF
 ·rename_i r_l
  obtain⟨hr_l,hl,hF⟩:=hF
  generalize deS r_l=l at hr_l hl hF
  subst hr_l
  refine⟨_,hF,rfl,(M7 l), ?_⟩
  show run [] Tryz.prog _ [.vsl 0 0 (l.map slE).length] [some ⟨false,(pSl.getD (0,0)).1,(pSl.getD (0,0)).2,true,(l.map slE)⟩] _ _
  rw[Hf];(conv=>zeta)
  have hlm:(l.map slE).length=l.length:=List.length_map _
  refine⟨⟨rfl,Nat.zero_le _,fun j hj=>absurd hj (Nat.not_lt_zero _)⟩, ?_⟩
  rintro p ⟨hp0,hI⟩
  refine⟨fun hlt=> ?_,fun hge=> ?_⟩
  ·have hp:p<l.length:=by have:=of_decide_eq_true hlt;omega
   have B:0≤(p:Int)∧(p:Int)< ((l.map slE).length:Int):=by omega
   refine⟨B,eL B.1 B.2 (fX _),fun h=> ?_,fun h=>⟨inR (by omega) (by omega),p+1,rfl,⟨hp,fun j hj=> ?_⟩,by omega⟩⟩
   ·have h:=kg h
    rcases fp l l.length 0 with⟨_,a⟩| ⟨i,e,_,_,c,d⟩
    ·rw[a p (Nat.zero_le _) (by omega)] at h;cases h
    ·rcases Nat.lt_trichotomy i p with hi|rfl|hi
     ·rw[hI i hi] at c;cases c
     ·rw[e]
     ·rw[d p (Nat.zero_le _) hi] at h;cases h
   ·rcases Nat.lt_or_ge j p with h1|h1
    ·exact hI j h1
    ·obtain rfl:j=p:=by omega
     exact iR h
  ·have hp:p=l.length:=by have:=of_decide_eq_false hge;omega
   subst hp
   rcases fp l l.length 0 with⟨e,_⟩| ⟨i,_,_,b,c,_⟩
   ·rw[e]
   ·rw[hI i (by omega)] at c;cases c
 ·exact hF.elim

theorem G9(l:List Sl)(r:AV):run [] Tryz.prog 125 [.vsl 0 0 (l.map slE).length] [some ⟨false,(pSl.getD (0,0)).1,(pSl.getD (0,0)).2,true,(l.map slE)⟩] (MX l) (eM (.v r))=
  (let o:=[AV.lit (Value.int IntKind.i64 (0:Int))];let k:=(1:Nat);let j:=(0:Nat);let t:=AV.ptr (j+k+k) j j true;let i:=(1:Int);let h:=AV.int IntKind.i64;let g:=List.length (List.map slE l);let n:=Blk.mk true (nat_lit 31) k false [AV.vsl j j g];let f:=Blk.mk false (46:TypeId) (7:Nat) true (List.map slE l);let e:=AV.any;(∀(a:Nat),let u:=AV.func (Fn.yield a) [] [];inRange IntKind.i64 ((↑g:Int)-i)∧(St.mk [u,t,e,h ((↑g:Int)-i),e,e,e,e,e,e,e,e,e,e,e,e,e,e,e] [some f,some (Blk.mk true (3:Nat) k true o),some n]=tr l a (List.length l)∧Fh l (List.length l))∧∀(b:Nat),let m:=(↑b:Int);let q:=Decidable.decide (m-i≥(0:Int));let d:=at' l (b-k);let s:=Sl.e d;Fh l b→(q=true→((0:Int)≤m-i∧m-i< (↑g:Int))∧Blk.read Proofs.Tryz.prog f (46:Nat) (j+Int.toNat (m-i)) j=some (AV.agg [AV.bool d.1,AV.w64 s.1,AV.w64 s.2,AV.w64 s.3,AV.w64 s.4,h s.5,h s.6])∧a=a∧((!d.1)=true→h (m-i)=r)∧((!d.1)=false→inRange IntKind.i64 (m-i-i)∧∃(c:Nat),St.mk [u,t,e,h (m-i-i),e,e,e,e,e,e,e,e,e,e,e,e,e,e,e] [some f,some (Blk.mk true (3:TypeId) k true o),some n]=tr l a c∧Fh l c∧c<b))∧(q=false→h (-1:Int)=r))):=by kernel_rfl

theorem JH:eJ Tryz.prog 125 (ey [pSl] DU):=by
 refine eK fq fun l R hF=> ?_
 unfold DU at hF
 split at hF
 ·rename_i r_l
  obtain⟨hr_l,hl,hF⟩:=hF
  generalize deS r_l=l at hr_l hl hF
  subst hr_l
  refine⟨_,hF,rfl,(MX l), ?_⟩
  show run [] Tryz.prog _ [.vsl 0 0 (l.map slE).length] [some ⟨false,(pSl.getD (0,0)).1,(pSl.getD (0,0)).2,true,(l.map slE)⟩] _ _
  rw[G9];(conv=>zeta)
  have hlm:(l.map slE).length=l.length:=List.length_map _
  intro y
  refine⟨inR (by omega) (by omega),⟨by unfold tr;rw[hlm];rfl,Nat.le_refl _,fun j h1 h2=>by omega⟩, ?_⟩
  rintro p ⟨hp0,hI⟩
  refine⟨fun hge=> ?_,fun hlt=> ?_⟩
  ·have hp:0<p:=by have:=of_decide_eq_true hge;omega
   have e1:((p:Int)-1).toNat=p-1:=by omega
   have B:0≤(p:Int)-1∧(p:Int)-1< ((l.map slE).length:Int):=by omega
   refine⟨B,eL B.1 B.2 (by rw[e1];exact fX _),rfl,fun h=> ?_,fun h=>⟨inR (by omega) (by omega),p-1, ?_,⟨by omega,fun j h1 h2=> ?_⟩,by omega⟩⟩
   ·have h:=kg h
    rcases jy l l.length with⟨_,a⟩| ⟨i,e,b,c,d⟩
    ·rw[a (p-1) (by omega)] at h;cases h
    ·rcases Nat.lt_trichotomy i (p-1) with hi|rfl|hi
     ·rw[d (p-1) hi (by omega)] at h;cases h
     ·rw[e,show ((p-1:Nat):Int)=(p:Int)-1 from by omega]
     ·rw[hI i (by omega) b] at c;cases c
   ·unfold tr
    rw[show ((p-1:Nat):Int)-1=(p:Int)-1-1 from by omega]
    rfl
   ·rcases Nat.lt_or_ge j p with h3|h3
    ·obtain rfl:j=p-1:=by omega
     exact iR h
    ·exact hI j h3 h2
  ·have hp:p=0:=by have:=of_decide_eq_false hlt;omega
   subst hp
   rcases jy l l.length with⟨e,_⟩| ⟨i,_,b,c,_⟩
   ·rw[e]
   ·rw[hI i (Nat.zero_le _) b] at c;cases c
 ·exact hF.elim

theorem DJ(l:List Sl)(t e s:Int)(es:List AV):run [] Tryz.prog 124 [.vsl 0 0 (l.map slE).length, .int .i64 t, .int .i64 e, .int .i64 s] [some ⟨false,(pSl.getD (0,0)).1,(pSl.getD (0,0)).2,true,(l.map slE)⟩] (MC l t e s) (eM (.vrow 3 1 es))=
  (let D:=r9 l t e s;let y:=wyN t e;let u:=inRange IntKind.i64;let q:=HB l t s (y);let m:=List.length (List.map slE l);let j:=(0:Nat);let i:=(1:Nat);let B:=AV.vsl (j+i) j;let A:=Blk.mk true (3:TypeId) i true;let w:=Blk.mk true (3:Nat) i;let h:=Blk.mk false (46:TypeId) (7:Nat) true (List.map slE l);let g:=AV.int IntKind.i64;let d:=AV.any;(u (t+s)∧(St.mk [AV.vsl j j m,d,g e,g s,d,d,d,d,d,B i,g (t+s),d,d,d,d,d,d,d,d,d,d,d,d,d,d,d,d,d,d,d,d,d,d,d,d,d,d,d,d,d,d,d,d,d,d] [some h,some (w (true&&true) [g t])]=D ([t],j)∧q ([t],j))∧∀(a:List Int×Nat),let C:=wyF l t s (a.2+(2:Nat));let z:=wiR (a.1++[wyP t s (a.2+i)]);let r:=wyF l t s (a.2+i) !=C;let n:=List.map wiA (Prod.fst a);let k:=List.length a.1;let x:=k+i≤(9223372036854775807:Nat);let v:=(k+i)*(8:Nat)≤(140737488355328:Nat);let f:=(↑a.2:Int)+(1:Int);let o:=t+s*f+s;q a→((t+s*f !=e)=true→((0:Int)≤t+s*f∧t+s*f< (↑m:Int))∧Blk.read Proofs.Tryz.prog h (3:Nat) (j+Int.toNat (t+s*f)) (j+i+(4:Nat))=some (g (wyF l t s (a.2+i)))∧u o∧((0:Int)≤t+s*f+s∧t+s*f+s< (↑m:Int))∧Blk.read Proofs.Tryz.prog h (3:Nat) (j+Int.toNat o) (j+i+(4:Nat))=some (g (C))∧(r=true→(v∧x∧j+i≤List.length [g (t+s*f)]∧k≤List.length n)∧List.take (k) n++[g (t+s*f)]=z∧u o∧∃(b:List Int×Nat),St.mk [AV.vsl j j m,d,g e,g s,d,d,d,d,d,B (k+i),g o,d,d,d,d,d,d,d,d,d,d,d,d,d,d,d,d,d,d,d,d,d,d,d,d,d,d,d,d,d,d,d,d,d,d] [some h,some (w true (z))]=D b∧q b∧y-b.2<y-a.2)∧(r=false→u o∧∃(c:List Int×Nat),St.mk [AV.vsl j j m,d,g e,g s,d,d,d,d,d,B (k),g o,d,d,d,d,d,d,d,d,d,d,d,d,d,d,d,d,d,d,d,d,d,d,d,d,d,d,d,d,d,d,d,d,d,d] [some h,some (A (wiR a.1))]=D c∧q c∧y-c.2<y-a.2))∧((t+s*f !=e)=false→(v∧x∧j+i≤List.length [g e]∧k≤List.length n)∧List.take (k) n++[g e]=wiR (wyL l t s (y))∧k+i=List.length es∧some (w true (wiR (wyL l t s (y))))=some (A es)))):=by kernel_rfl

theorem G3:eJ Tryz.prog 124 (ey [pSl,none,none,none] yj):=by
 refine eK fq fun l R hF=> ?_
 unfold yj at hF
 split at hF
 ·rename_i r_l t e s
  obtain⟨hr_l,hl,hF⟩:=hF
  generalize deS r_l=l at hr_l hl hF
  subst hr_l
  obtain⟨he,hF⟩:=hF
  refine⟨_,hF,trivial,(MC l t e s), ?_⟩
  show run [] Tryz.prog _ [.vsl 0 0 (l.map slE).length, .int .i64 t, .int .i64 e, .int .i64 s] [some ⟨false,(pSl.getD (0,0)).1,(pSl.getD (0,0)).2,true,(l.map slE)⟩] _ _
  rw[DJ];(conv=>zeta)
  have hlm:(l.map slE).length=l.length:=List.length_map _
  obtain⟨⟨ht0,ht1,he0,he1⟩,hs⟩:=he
  have hN:e=t+s*((wyN t e:Nat)+1:Int)∧wyN t e+1<l.length+1:=by
   unfold wyN
   rcases hs with⟨rfl,h⟩| ⟨rfl,h⟩<;>omega
  generalize wyN t e=N at hN
  obtain⟨hE,hNl⟩:=hN
  have hB:∀d:Nat,d≤N+1→0≤t+s*(d:Int)∧t+s*(d:Int)< ((l.map slE).length:Int):=fun d hd=>by
   rcases hs with⟨rfl,h⟩| ⟨rfl,h⟩<;>omega
  have hS:∀d:Int,t+s*d+s=t+s*(d+1):=fun d=>by rw[Int.mul_add,Int.mul_one];omega
  have hR:∀d:Nat,d≤N+1→inRange .i64 (t+s*(d:Int)):=fun d hd=>by have:=hB d hd;exact inR (by omega) (by omega)
  have hL:∀q:List Int×Nat,HB l t s N q→q.1.length≤N+2:=fun q hq=>by
   have h1:=congrArg List.length hq.2
   have h2:=oy (wyF l t s) N 0
   unfold wyL wyS at h1
   rw[List.length_append,List.length_cons,List.length_map,List.length_map] at h1
   omega
  have st0:∀d,wyS l t s d 0=[wyP t s (d+1)]:=fun d=>rfl
  have st1:∀d n,wyS l t s d (n+1)=if wyF l t s (d+1)≠wyF l t s (d+2) then wyP t s (d+1)::wyS l t s (d+1) n else wyS l t s (d+1) n:=fun d n=>by
   unfold wyS
   rw[wgS]
   split<;>rfl
  refine⟨by have:=hR 1 (by omega);rwa [show ((1:Nat):Int)=1 from rfl,Int.mul_one] at this,⟨?_,Nat.zero_le _,rfl⟩, ?_⟩
  ·unfold r9
   rw[show s*(((([t],0):List Int×Nat).2:Int)+1)=s from by show s*((0:Int)+1)=s;rw[Int.zero_add,Int.mul_one]]
   rfl
  rintro⟨q,d⟩ hI
  have hq:=hL _ hI
  obtain⟨hd0,hI⟩:=hI
  dsimp only at hd0 hI hq⊢
  have e1:((d+1:Nat):Int)=(d:Int)+1:=rfl
  have e2:((d+2:Nat):Int)=(d:Int)+1+1:=by omega
  refine⟨fun hne=> ?_,fun he=> ?_⟩
  ·have hd:d<N:=Nat.lt_of_le_of_ne hd0 fun h=>by
    subst h
    rw[←hE] at hne
    simp at hne
   have B1:=hB (d+1) (by omega)
   have B2:=hB (d+2) (by omega)
   have R2:=hR (d+2) (by omega)
   rw[e1] at B1
   have eR2:t+s*((d:Int)+1)+s=t+s*((d+2:Nat):Int):=by rw[hS,e2]
   rw[←eR2] at B2 R2
   obtain⟨n,hn⟩:∃n,N-d=n+1:=⟨N-d-1,by omega⟩
   have hn2:N-(d+1)=n:=by omega
   rw[hn,st1] at hI
   have e10:t+s*((d:Int)+1)+s=t+s*(((d+1:Nat):Int)+1):=by rw[hS,e1]
   refine⟨B1,eL B1.1 B1.2 (by unfold wyF;exact EQ _),R2,B2,eL B2.1 B2.2 (by unfold wyF;rw[eR2];exact EQ _),fun h=>⟨⟨by omega,by omega,Nat.le_refl _,by rw[List.length_map];exact Nat.le_refl _⟩, ?_,R2,(q++[wyP t s (d+1)],d+1), ?_,⟨hd, ?_⟩,by show N-(d+1)<N-d;omega⟩,fun h=>⟨R2,(q,d+1), ?_,⟨hd, ?_⟩,by show N-(d+1)<N-d;omega⟩⟩
   ·rw[List.take_of_length_le (by rw[List.length_map];exact Nat.le_refl _)]
    show _=List.map wiA _
    rw[List.map_append];rfl
   ·unfold r9
    dsimp only
    rw[List.length_append,←e10];rfl
   ·rw[if_pos (by simpa using h)] at hI
    show (q++[_])++wyS l t s (d+1) (N-(d+1))=_
    rw[←hI,hn2,List.append_assoc];rfl
   ·unfold r9
    dsimp only
    rw[←e10];rfl
   ·rw[if_neg (by simpa using h)] at hI
    show q++wyS l t s (d+1) (N-(d+1))=_
    rw[←hI,hn2]
  ·have hd:d=N:=Nat.le_antisymm hd0 (Nat.le_of_not_lt fun hlt=>by
    have he:t+s*((d:Int)+1)=e:=by simpa using he
    rw[hE] at he
    rcases hs with⟨rfl,h⟩| ⟨rfl,h⟩<;>omega)
   subst hd
   rw[Nat.sub_self,st0] at hI
   have hp:wyP t s (d+1)=e:=by unfold wyP;rw[e1];exact hE.symm
   rw[hp] at hI
   refine⟨⟨by omega,by omega,Nat.le_refl _,by rw[List.length_map];exact Nat.le_refl _⟩, ?_, ?_,rfl⟩
   ·rw[List.take_of_length_le (by rw[List.length_map];exact Nat.le_refl _),←hI]
    show _=List.map wiA _
    rw[List.map_append];rfl
   ·show _=(List.map wiA _).length
    rw[List.length_map,←hI,List.length_append];rfl
 ·exact hF.elim

end Go.Proofs.YtcabofadpheomaaGreat.L1
end

section
namespace Go.Proofs.YtcabofadpheomaaGreat.L1
open Go.Sx Go.Sx.M

def MI(b a:Bool):List Hint:=match b,a with
 |false,_=>[.br true]
 |true,false=>[.fork [] [.br false]]
 |true,true=>[.fork [] [.fork [] [.fork [] []]]]
def MK(l:List Sl)(n:Int)(b:Bool):List Hint:=[.ix (gfS l n), .fork (.nw:: .nm (wiR (waL l n))::MI b true) (MI b false)]
def MJ(l:List Sl)(n:Int):List Hint:=[.ix (gtS l n), .ix (gfS l n), .fork [.nw] [.ix (gtS l n), .fork (.nw:: .nm (wiR (wbL l n))::MK l n true) (MK l n false)]]

def sV(l:List Sl)(x:En)(W:List Int)(q:List Wr×Nat):St:=⟨[.vsl 0 0 (l.map slE).length, .any, .any, .ptr 1 0 0 true, .any, .any, .vsl 2 0 (wiR W).length, .int .i64 (((wiR W).length:Int)-1), .vsl 3 0 q.1.length, .any, .any, .any, .any, .any, .any, .any, .any, .any, .any, .any, .any, .any, .any, .any, .any, .any, .any, .any, .any, .any, .any, .any, .vsl 2 0 (W.length-1), .int .i64 ((W.length-1:Nat):Int), .int .i64 q.2, .any, .any, .any, .any, .any, .any, .any, .any, .any, .any, .any, .any, .any, .any, .any, .any, .any, .any, .any, .any, .any, .any, .any, .any, .any, .any, .any, .any],[pq l,some ⟨true,44,6,true,[enE x]⟩,some ⟨true,3,1,true,wiR W⟩,some ⟨true,48,8,true,ppR q.1⟩]⟩
def E2(l:List Sl)(x:En)(W:List Int)(q:List Wr×Nat):Prop:=q.2+1≤W.length∧q.1++wwL l x (W.drop q.2)=wwL l x W
def NU:Modes:=⟨[1,0,0,1,0,0,1,1,1,0,0,0,0,0,0,0,0,0,0,0,0,0,0,0,0,0,0,0,0,0,0,0,1,1,2,0,0,0,0,0,0,0,0,0,0,0,0,0,0,0,0,0,0,0,0,0,0,0,0,0,0,0,0],[],[],[],[(8,48,8)]⟩
def PM:Modes:=⟨[1,0,0,1,0,0,1,1,1,0,0,0,0,0,0,0,0,0,0,0,0,0,0,0,0,0,0,0,0,0,0,0,1,1,1,0,0,0,0,0,0,0,0,0,0,0,0,0,0,0,0,0,0,0,0,0,0,0,0,0,0,0,0],[],[],[],[]⟩
def NV:Modes:=⟨[0,0,0,1,0,0,1,1,1,0,0,0,0,0,0,0,0,0,0,0,0,0,0,0,0,0,0,0,0,0,0,0,0,0,0,0,0,0,0,0,0,0,0,0,0,0,0,0,0,0,0,0,0,0,0,0,0,0,0,0,0,0,0],[],[],[],[]⟩
def MP(l:List Sl)(x:En)(W:List Int):List Hint:=[.fork [] [.fork [] [.fork [] [.nm (wiR W), .nw, .ix (W.length-1), .linv _ ([],0) (sV l x W) (E2 l x W) (fun q=>W.length-q.2) NU PM NV (fun _=>[.dy, .cell (wiA (wAt W (W.length-1))), .rows (ppR (wwL l x W))]) fun q=>
 [.fork [.dy, .cell (wiA (wAt W q.2)), .nw, .dy, .cell (wiA (wAt W (q.2+1))), .dy, .cell (slE (at' l (wAt W (q.2+1)).toNat)), .rows (ppR (q.1++[⟨wAt W q.2,at' l (wAt W (q.2+1)).toNat⟩])), .nw] []]]]]]

theorem HH(x:Int):e7 Tryz.prog 3 (wiA x).cells 0=some (wiA x):=by kernel_rfl

theorem KT{w:List Int}{i:Nat}(h:i<w.length):wAt w i∈w:=by
 unfold wAt
 rw[List.getD_eq_getElem?_getD,List.getElem?_eq_getElem h]
 exact List.getElem_mem h

theorem si{w:List Int}{p:Nat}(h:p<w.length):w.drop p=wAt w p::w.drop (p+1):=by
 unfold wAt
 rw[List.drop_eq_getElem_cons h,List.getD_eq_getElem?_getD,List.getElem?_eq_getElem h];rfl

theorem KP{l:List Sl}{x:En}{w:List Int}{p:Nat}(h:p+1<w.length):wwL l x (w.drop p)=⟨wAt w p,at' l (wAt w (p+1)).toNat⟩::wwL l x (w.drop (p+1)):=by
 rw[si (show p<w.length by omega),si h,wwL]

theorem KQ{l:List Sl}{x:En}{w:List Int}{p:Nat}(h:p+1=w.length):wwL l x (w.drop p)=[⟨wAt w p,⟨true,x⟩⟩]:=by
 rw[si (show p<w.length by omega),List.drop_of_length_le (by omega),wwL]

theorem HA{l:List Sl}{t s:Int}{n:Nat}{z:Int}(h:z∈wyL l t s n):∃d:Nat,d≤n+1∧z=t+s*d:=by
 unfold wyL wyS at h
 rcases List.mem_cons.1 h with rfl|h
 ·exact⟨0,Nat.zero_le _,by simp⟩
 ·obtain⟨d,hd,rfl⟩:=List.mem_map.1 h
  have:=xb _ n 0 d hd
  exact⟨d,by omega,rfl⟩

theorem HD{l:List Sl}{n:Int}(hno:¬(inG l n<0∧dnG l n<0∧upG l n<0)):∀z∈wsL l n,0≤z∧z<l.length:=by
 intro z hz
 obtain⟨t1,_,_⟩:=io l n
 have ha:0≤upG l n→z∈waL l n→0≤z∧z<l.length:=fun hU h=>by
  obtain⟨q,eq,q1,q2,_⟩:=vF hU
  obtain⟨d,hd,rfl⟩:=HA h
  omega
 have hb:0≤dnG l n→z∈wbL l n→0≤z∧z<l.length:=fun hD h=>by
  obtain⟨p,ep,p1,p2,_⟩:=ws hD
  obtain⟨d,hd,rfl⟩:=HA h
  omega
 unfold wsL at hz
 split at hz
 ·rename_i h
  rw[List.mem_singleton] at hz
  subst hz
  unfold inG at h⊢
  rcases fp l (gtS l n-gfS l n) (gfS l n) with⟨e,_⟩| ⟨i,e,a,b,_⟩<;>omega
 ·rename_i h
  split at hz
  ·exact ha (by omega) hz
  ·split at hz
   ·rename_i h;exact ha h.1 hz
   ·exact hb (by omega) hz

theorem Ns(l:List Sl)(n:Int):0< (wsL l n).length:=by
 have ha:0< (waL l n).length:=by unfold waL wyL;simp
 have hb:0< (wbL l n).length:=by unfold wbL wyL;simp
 unfold wsL
 split
 ·simp
 ·split
  ·exact ha
  ·split
   ·exact ha
   ·exact hb

theorem Nt(l:List Sl)(n:Int):(wsL l n).length≤l.length+2:=by
 obtain⟨f1,_,_⟩:=kq l n
 have hw:∀(t s:Int) (k:Nat),(wyL l t s k).length≤k+2:=fun t s k=>by
  have:=oy (wyF l t s) k 0
  unfold wyL wyS
  rw[List.length_cons,List.length_map]
  omega
 have ha:=hw (upG l n) 1 (gfS l n-1-(upG l n).toNat-1)
 have hb:=hw (dnG l n) (-1) ((dnG l n).toNat-gtS l n-1)
 have hd:dnG l n≤l.length:=by
  unfold dnG
  rcases fp l (l.length-gtS l n) (gtS l n) with⟨e,_⟩| ⟨i,e,_,b,_⟩
  ·omega
  ·obtain⟨t1,_,_⟩:=io l n;omega
 have ha:(waL l n).length≤l.length+2:=by unfold waL;omega
 have hb:(wbL l n).length≤l.length+2:=by unfold wbL;omega
 unfold wsL
 split
 ·simp
 ·split
  ·exact ha
  ·split
   ·exact ha
   ·exact hb

theorem Ic(l:List Sl)(f k:Nat):List.take k (List.drop f (l.map slE))=((l.drop f).take k).map slE:=by rw[←List.map_drop,←List.map_take]

noncomputable def jI:List (FuncId×Sx.Spec):=[(122,ey [pSl,none] yD),
 (123,ey [pSl] D3),
 (125,ey [pSl] DU),
 (124,ey [pSl,none,none,none] yj)]

theorem yq(l:List Sl)(n:Int)(es:List AV):run jI Tryz.prog 99 [.vsl 0 0 (l.map slE).length, .int .i64 n] [some ⟨false,(pSl.getD (0,0)).1,(pSl.getD (0,0)).2,true,(l.map slE)⟩] (MJ l n) (eM (.vrow 3 1 es))=
  (let R:=wiR (wbL l n);let Q:=wiR (waL l n);let M:=(-1:Int);let H:=inRange IntKind.i64;let G:=(1:Nat);let F:=gtS l n;let E:=gfS l n;let A:=List.length es;let y:=(1:Int);let x:=(1000000:Nat);let v:=(0:Int);let q:=List.length (Q);let p:=List.length (R);let I:=Decidable.decide ((↑(q):Int)< (↑(p):Int));let o:=List.map slE;let k:=(0:Nat);let w:=List.take (E-k) (List.drop (k+k) (o l));let i:=Blk.mk true (3:TypeId) G true;let C:=some (i (R))=some (i es);let B:=some (i (Q))=some (i es);let g:=List.length (o l);let V:=k+g≤g;let J:=List.take (g-F) (List.drop (k+F) (o l));let t:=List.take (g) (List.drop k (o l));let f:=List.take (F-E) (List.drop (k+E) (o l));let P:=deS (f);let u:=geS P (List.length P) k;let T:=Decidable.decide (u≥v);let c:=deS (J);let r:=geS c (List.length c) k;let U:=Decidable.decide (r≥v);let b:=deS (w);let S:=List.length b;let j:=upS b (S);let D:=Decidable.decide (j≥v);let a:=deS (t);let L:=(↑(gtS a n):Int);let z:=List.length a;let N:=(↑(z):Int);let h:=if kpS a=true then L else v;let e:=wyL a (h+r) M (wyN (h+r) h);let d:=if kpS a=true then (↑(gfS a n):Int) else v;let O:=d=(↑(E):Int);let s:=wiR (wyL a (j) y (wyN (j) (d-y)));let K:=s=Q∧List.length (s)=q;let m:=(v≤j∧j<N∧v≤d-y∧d-y<N)∧(y=y∧j<d-y∨y=M∧d-y<j);(V∧t=o a∧z≤x∧h=(↑(F):Int)∧F<g+G∧O∧E<F+G∧k+E+(F-E)≤g∧f=o P∧List.length P≤x∧(T=true→H (d+u)∧G=A∧some (Blk.mk true (3:Nat) G (true&&true) [AV.int IntKind.i64 (d+u)])=some (i es))∧(T=false→h=(↑(F):Int)∧F<g+G∧k+F+(g-F)≤g∧J=o c∧List.length c≤x∧(U=true→H (h+r)∧V∧t=o a∧z≤x∧((v≤h+r∧h+r<N∧(v≤if kpS a=true then L else v)∧h<N)∧((M=y∧h+r<if kpS a=true then L else v)∨M=M∧h<h+r))∧(wiR (e)=R∧List.length (wiR (e))=p)∧O∧E<g+G∧k+k+(E-k)≤g∧w=o b∧S≤x∧(D=true→H (d-y)∧V∧t=o a∧z≤x∧m∧K∧(p=k→q=A∧B)∧(q=k→p=A∧C)∧(I=true→q=A∧B)∧(I=false→p=A∧C))∧(D=false→(p=k→es=[])∧(!true)=false∧p=A∧C))∧(U=false→O∧E<g+G∧k+k+(E-k)≤g∧w=o b∧S≤x∧(D=true→H (d-y)∧V∧t=o a∧z≤x∧m∧K∧true=true∧q=A∧B)∧(D=false→true=true∧es=[]))))):=by kernel_rfl

theorem vk:∀e∈jI,eJ Tryz.prog e.1 e.2:=by
 intro e he
 simp only[jI,List.mem_cons,List.not_mem_nil,or_false] at he
 rcases he with rfl|rfl|rfl|rfl
 ·exact Hc
 ·exact JI
 ·exact JH
 ·exact G3

theorem A3:eJ Tryz.prog 99 (ey [pSl,none] qD):=by
 refine eK (eS (l:=jI) vk mixed noNG) fun l R hF=> ?_
 unfold qD at hF
 split at hF
 ·rename_i r_l n
  obtain⟨hr_l,hl,hF⟩:=hF
  generalize deS r_l=l at hr_l hl hF
  subst hr_l
  obtain⟨hk,hF⟩:=hF
  refine⟨_,hF,trivial,(MJ l n), ?_⟩
  show run jI Tryz.prog _ [.vsl 0 0 (l.map slE).length, .int .i64 n] [some ⟨false,(pSl.getD (0,0)).1,(pSl.getD (0,0)).2,true,(l.map slE)⟩] _ _
  rw[yq];(conv=>zeta)
  obtain⟨hk,hno⟩:=hk
  have hK:=nQ.1 hk
  have hlm:(l.map slE).length=l.length:=List.length_map _
  obtain⟨f1,_,_⟩:=kq l n
  obtain⟨t1,_,_⟩:=io l n
  have hle:=yJ hK n
  have lW:∀w,(wiR w).length=w.length:=fun w=>List.length_map _
  have eI:geS ((l.drop (gfS l n)).take (gtS l n-gfS l n)) ((l.drop (gfS l n)).take (gtS l n-gfS l n)).length 0=if 0≤inG l n then inG l n-gfS l n else-1:=by
   rw[gN (by omega),Fu];rfl
  have eD:geS ((l.drop (gtS l n)).take (l.length-gtS l n)) ((l.drop (gtS l n)).take (l.length-gtS l n)).length 0=if 0≤dnG l n then dnG l n-gtS l n else-1:=by
   rw[gN (by omega),Fu];rfl
  have eU:upS ((l.drop 0).take (gfS l n)) ((l.drop 0).take (gfS l n)).length=upG l n:=by
   rw[gN (by omega),EM _ (Nat.le_refl _)];rfl
  simp only[eT,fG,zLe,true_and,hl,hk,if_true]
  simp only[Ic,fG,Nat.zero_add,Nat.add_zero,Nat.sub_zero,hlm,eI,eD,eU,eq_self,true_and]
  have hin:0≤inG l n→(gfS l n:Int)≤inG l n∧inG l n<l.length:=fun h=>by
   unfold inG at h⊢
   rcases fp l (gtS l n-gfS l n) (gfS l n) with⟨e,_⟩| ⟨i,e,a,b,_⟩<;>omega
  have lb:¬(wiR (wbL l n)).length=0:=by rw[lW];unfold wbL wyL;simp
  have la:¬(wiR (waL l n)).length=0:=by rw[lW];unfold waL wyL;simp
  refine⟨by omega,by omega,by omega,by rw[gN (by omega)];omega,fun h=> ?_,fun h=>⟨by omega,by omega,by rw[gN (by omega)];omega,fun h2=> ?_,fun h2=> ?_⟩⟩
  ·have h:0≤inG l n:=by have:=of_decide_eq_true h;split at this<;>omega
   have hi:=hin h
   have e:wsL l n=[inG l n]:=by unfold wsL;rw[if_pos h]
   rw[if_pos h,e,show (gfS l n:Int)+(inG l n-gfS l n)=inG l n from by omega]
   exact⟨inR (by omega) (by omega),rfl,rfl⟩
  all_goals
   have hI:¬0≤inG l n:=fun hh=>by
    have:=of_decide_eq_false h
    rw[if_pos hh] at this
    have:=hin hh
    omega
  ·have hD:0≤dnG l n:=by have:=of_decide_eq_true h2;split at this<;>omega
   obtain⟨p,ep,p1,p2,p3⟩:=ws hD
   have eb:wyL l (dnG l n) (-1) (wyN (dnG l n) (gtS l n))=wbL l n:=by
    unfold wbL
    rw[show wyN (dnG l n) (gtS l n)=(dnG l n).toNat-gtS l n-1 from by unfold wyN;omega]
   rw[if_pos hD,show (gtS l n:Int)+(dnG l n-gtS l n)=dnG l n from by omega,eb]
   refine⟨inR (by omega) (by omega),⟨⟨by omega,by omega,by omega,by omega⟩, .inr (by omega)⟩,⟨rfl,rfl⟩,by omega,f1,by rw[gN (by omega)];omega,fun h3=> ?_,fun h3=> ?_⟩
   ·have hU:0≤upG l n:=of_decide_eq_true h3
    obtain⟨q,eq,q1,q2,q3⟩:=vF hU
    have ea:wyL l (upG l n) 1 (wyN (upG l n) ((gfS l n:Int)-1))=waL l n:=by
     unfold waL
     rw[show wyN (upG l n) ((gfS l n:Int)-1)=gfS l n-1-(upG l n).toNat-1 from by unfold wyN;omega]
    rw[ea]
    have es:wsL l n=if (waL l n).length< (wbL l n).length then waL l n else wbL l n:=by
     unfold wsL
     rw[if_neg hI,if_neg (by omega)]
     split
     ·rename_i h;rw[if_pos h.2]
     ·rename_i h;rw[if_neg fun hh=>h ⟨hU,hh⟩]
    refine⟨inR (by omega) (by omega),⟨⟨hU,by omega,by omega,by omega⟩, .inl (by omega)⟩,⟨rfl,rfl⟩,fun z=>absurd z lb,fun z=>absurd z la,fun h4=> ?_,fun h4=> ?_⟩
    ·have h4:=of_decide_eq_true h4
     rw[lW,lW] at h4
     rw[es,if_pos (by omega)]
     exact⟨rfl,rfl⟩
    ·have h4:=of_decide_eq_false h4
     rw[lW,lW] at h4
     rw[es,if_neg (by omega)]
     exact⟨rfl,rfl⟩
   ·have hU:¬0≤upG l n:=of_decide_eq_false h3
    have es:wsL l n=wbL l n:=by
     unfold wsL
     rw[if_neg hI,if_neg (by omega),if_neg fun h=>hU h.1]
    rw[es]
    exact⟨fun z=>absurd z lb,rfl,rfl,rfl⟩
  ·have hD:dnG l n<0:=by
    rcases Int.lt_or_le (dnG l n) 0 with hh|hh
    ·exact hh
    ·have:=of_decide_eq_false h2
     rw[if_pos hh] at this
     obtain⟨p,ep,p1,p2,p3⟩:=ws hh
     omega
   refine⟨by omega,f1,by rw[gN (by omega)];omega,fun h3=> ?_,fun h3=> ?_⟩
   ·have hU:0≤upG l n:=of_decide_eq_true h3
    obtain⟨q,eq,q1,q2,q3⟩:=vF hU
    have ea:wyL l (upG l n) 1 (wyN (upG l n) ((gfS l n:Int)-1))=waL l n:=by
     unfold waL
     rw[show wyN (upG l n) ((gfS l n:Int)-1)=gfS l n-1-(upG l n).toNat-1 from by unfold wyN;omega]
    have es:wsL l n=waL l n:=by
     unfold wsL
     rw[if_neg hI,if_pos hD]
    rw[ea,es]
    exact⟨inR (by omega) (by omega),⟨⟨hU,by omega,by omega,by omega⟩, .inl (by omega)⟩,⟨rfl,rfl⟩,rfl,rfl⟩
   ·have hU:¬0≤upG l n:=of_decide_eq_false h3
    exact absurd ⟨by omega,hD,by omega⟩ hno
 ·exact hF.elim

noncomputable def iX:List (FuncId×Sx.Spec):=[(64,ey [none] nW),
 (58,ey [pSl] mW),
 (25,ey [pSl] rN),
 (99,ey [pSl,none] qD)]

theorem vn(l:List Sl)(v w m n:BitVec 64)(k j:Int):run iX Tryz.prog 59 [.vsl 0 0 (l.map slE).length, .agg [.w64 v, .w64 w, .w64 m, .w64 n, .int .i64 k, .int .i64 j]] [some ⟨false,(pSl.getD (0,0)).1,(pSl.getD (0,0)).2,true,(l.map slE)⟩] (MP l ⟨v,w,m,n,k,j⟩ (wsL l k)) (eM (.many [.vrow 48 8 ((inW l ⟨v,w,m,n,k,j⟩).map wrE), .v (.int .i64 (inE l ⟨v,w,m,n,k,j⟩))]))=
  (let X:=(8:Nat);let U:=inRange IntKind.i64;let O:=List.map slE;let M:=(9223372036854775807:Nat);let L:=Blk.mk true;let F:=(0:Int);let E:=List.map wrE;let D:=AV.w64;let C:=(1:Int);let y:=Blk.mk false (46:TypeId) (7:Nat) true (O l);let q:=List.length (O l);let o:=(0:Nat);let i:=En.mk v w m n k j;let T:=E (inW l i);let h:=(1:Nat);let Z:=AV.ptr (o+h) o o true;let P:=AV.vsl (o+h+h);let g:=wsL l k;let H:=List.length (wiR g);let u:=List.length g;let K:=(↑(u-h):Int);let t:=L (3:TypeId) h true (wiR g);let r:=(↑(H):Int);let f:=AV.any;let e:=AV.int IntKind.i64;let W:=e (inE l i);let S:=[AV.agg [D v,D w,D m,D n,e k,e j]];let G:=[AV.agg [e (wAt g (u-h)),AV.bool true,D v,D w,D m,D n,e k,e j]];let s:=[some y,some (L (44:Nat) (6:Nat) true S),some t];let c:=List.take (q) (List.drop o (O l));let A:=deS (c);let V:=List.length A≤(1000000:Nat);(((!rtE i)=true→T=[]∧e C=W∧True)∧((!rtE i)=false→o+q≤q∧c=O A∧V∧((!kpS A)=true→T=[]∧e (7:Int)=W∧True)∧((!kpS A)=false→o+q≤q∧c=O A∧List.length A≤M∧((frS A==F)=true→T=[]∧e (3:Int)=W∧True)∧((frS A==F)=false→o+q≤q∧c=O A∧V∧(kpS A=true∧¬(inG A k<F∧dnG A k<F∧upG A k<F))∧(wiR (wsL A k)=wiR g∧List.length (wiR (wsL A k))=H)∧U (r-C)∧r-C=K∧u-h<H+h∧(St.mk [AV.vsl o o (q),f,f,Z,f,f,P o (H),e (r-C),AV.vsl (List.length s) o o,f,f,f,f,f,f,f,f,f,f,f,f,f,f,f,f,f,f,f,f,f,f,f,P (o+o) (u-h-o),e (↑(u-h-o):Int),e F,f,f,f,f,f,f,f,f,f,f,f,f,f,f,f,f,f,f,f,f,f,f,f,f,f,f,f,f] (s++[some (L (48:TypeId) X true [])])=sV l i g ([],o)∧E2 l i g ([],o))∧∀(a:List Wr×Nat),let R:=E (Prod.fst a);let N:=wAt g (a.2+h);let J:=ppR (a.1++[Wr.mk (wAt g a.2) (at' l (Int.toNat (N)))]);let B:=(↑a.2:Int);let Y:=Decidable.decide (B<K);let z:=List.length a.1;let Q:=(z+h)*(64:Nat)≤(140737488355328:Nat);let d:=at' l (Int.toNat (wAt g (Prod.snd a+h)));let I:=Sl.e d;let x:=[AV.agg [e (wAt g a.2),AV.bool d.1,D I.1,D I.2,D I.3,D I.4,e I.5,e I.6]];E2 l i g a→(Y=true→(F≤B∧B<K)∧Blk.read Proofs.Tryz.prog t (3:Nat) (o+Int.toNat B) o=some (wiA (wAt g a.2))∧U (B+C)∧(F≤B+C∧B+C<r)∧Blk.read Proofs.Tryz.prog t (3:Nat) (o+Int.toNat (B+C)) o=some (wiA (N))∧(F≤N∧N< (↑(q):Int))∧Blk.read Proofs.Tryz.prog y (46:Nat) (o+Int.toNat (N)) o=some (AV.agg [AV.bool d.1,D I.1,D I.2,D I.3,D I.4,e I.5,e I.6])∧(Q∧z+h≤M∧o+h≤List.length x∧z≤List.length R)∧List.take (z) R++x=J∧U (B+C)∧∃(b:List Wr×Nat),St.mk [AV.vsl o o (q),f,f,Z,f,f,P o (H),e (r-C),AV.vsl (o+h+h+h) o (z+h),f,f,f,f,f,f,f,f,f,f,f,f,f,f,f,f,f,f,f,f,f,f,f,P o (u-h),e K,e (B+C),f,f,f,f,f,f,f,f,f,f,f,f,f,f,f,f,f,f,f,f,f,f,f,f,f,f,f,f] [some y,some (L (44:TypeId) (6:Nat) true S),some t,some (L (48:Nat) X true (J))]=sV l i g b∧E2 l i g b∧u-b.2<u-a.2)∧(Y=false→(F≤r-C∧r-C<r)∧Blk.read Proofs.Tryz.prog t (3:Nat) (o+Int.toNat (r-C)) o=some (wiA (wAt g (u-h)))∧(Q∧z+h≤M∧o+h≤List.length G∧z≤List.length R)∧List.take (z) R++G=ppR (wwL l i g)∧(z+h=List.length (T)∧some (L (48:Nat) X true (ppR (wwL l i g)))=some (L (48:TypeId) X true (T)))∧e F=W∧True)))))):=by kernel_rfl

theorem tP:∀e∈iX,eJ Tryz.prog e.1 e.2:=by
 intro e he
 simp only[iX,List.mem_cons,List.not_mem_nil,or_false] at he
 rcases he with rfl|rfl|rfl|rfl
 ·exact nV
 ·exact oL
 ·exact wk
 ·exact A3

theorem yB:eJ Tryz.prog 59 (ey [pSl,none] oN):=by
 refine eK (eS (l:=iX) tP mixed noNG) fun l R hF=> ?_
 unfold oN at hF
 split at hF
 ·rename_i r_l v w m n k j
  obtain⟨hr_l,hl,hF⟩:=hF
  generalize deS r_l=l at hr_l hl hF
  subst hr_l
  refine⟨_,hF,rfl,(MP l ⟨v,w,m,n,k,j⟩ (wsL l k)), ?_⟩
  show run iX Tryz.prog _ [.vsl 0 0 (l.map slE).length, .agg [.w64 v, .w64 w, .w64 m, .w64 n, .int .i64 k, .int .i64 j]] [some ⟨false,(pSl.getD (0,0)).1,(pSl.getD (0,0)).2,true,(l.map slE)⟩] _ _
  rw[vn];(conv=>zeta)
  generalize hx:(⟨v,w,m,n,k,j⟩:En)=x
  have ek:k=x.len:=by rw[←hx]
  have hlm:(l.map slE).length=l.length:=List.length_map _
  have lW:∀L:List Wr,(List.map wrE L).length=L.length:=fun L=>List.length_map _
  have lI:∀w,(wiR w).length=w.length:=fun w=>List.length_map _
  rw[ek]
  simp only[eT,fG,zLe,true_and,and_true,eq_self,hl]
  refine⟨fun hr=> ?_,fun hr=>⟨fun hk=> ?_,fun hk=>⟨by omega,fun hf=> ?_,fun hf=> ?_⟩⟩⟩
  ·have hr:=kg hr
   unfold inW inE
   rw[hr];exact⟨rfl,rfl⟩
  ·have hr:=iR hr
   have hk:=kg hk
   unfold inW inE
   rw[hr,hk];exact⟨rfl,rfl⟩
  all_goals
   have hr:=iR hr
   have hk:=iR hk
   have hK:=nQ.1 hk
   have hfull:=Bz l x.len hK
  ·have hf:frS l=0:=by simpa using hf
   have hfl:=hfull.2 (by unfold frS at hf;have:=fJ l;omega)
   unfold inW inE
   rw[hr,hk,Bool.and_self,if_pos rfl,if_pos rfl,if_pos rfl,if_pos hfl,Jv hfl]
   exact⟨rfl,rfl⟩
  have hno:¬(inG l x.len<0∧dnG l x.len<0∧upG l x.len<0):=fun h=>by
   have hf:frS l≠0:=by simpa using hf
   have:=hfull.1 h
   unfold frS at hf
   omega
  have eW:inW l x=wwL l x (wsL l x.len):=by
   unfold inW
   rw[hr,hk,Bool.and_self,if_pos rfl,Pc hK hno]
  have eE:inE l x=0:=by
   unfold inE
   rw[hr,hk,if_pos rfl,if_pos rfl,if_neg hno]
  have hrg:=HD (n:=x.len) hno
  have hpos:=Ns l x.len
  have hlen:=Nt l x.len
  rw[eW,eE]
  generalize wsL l x.len=W at hrg hpos hlen
  have hat:∀i,i<W.length→0≤wAt W i∧wAt W i<l.length:=fun i hi=>hrg _ (KT hi)
  have rd:∀{i:Int},0≤i→i<W.length→Blk.read Tryz.prog (Blk.mk true 3 1 true (wiR W)) 3 (0+i.toNat) 0=some (wiA (wAt W i.toNat)):=fun {i} h0 h1=>by
   have:=eL (de:=wiA) (l:=W) (b:=true) (ty:=3) (esz:=1) (t:=3) (o:=0) (k:=i) h0 (by rw[List.length_map];exact h1) (HH _)
   exact this
  refine⟨⟨hk,hno⟩,inR (by rw[lI];omega) (by rw[lI];omega),by rw[lI];omega,by rw[lI];omega,⟨?_,by show 0+1≤W.length;omega,rfl⟩, ?_⟩
  ·unfold sV
   rw[←hx];rfl
  rintro⟨o,p⟩ ⟨hp,hI⟩
  dsimp only at hp hI⊢
  have hol:o.length≤W.length:=by
   have:=congrArg List.length hI
   rw[List.length_append,jw,jw] at this
   omega
  refine⟨fun hlt=> ?_,fun hge=> ?_⟩
  ·have hlt:p+1<W.length:=by have:=of_decide_eq_true hlt;omega
   have h1:=hat (p+1) hlt
   have r1:=rd (i:=(p:Int)) (by omega) (by omega)
   have r2:=rd (i:=(p:Int)+1) (by omega) (by omega)
   rw[Int.toNat_natCast] at r1
   rw[show ((p:Int)+1).toNat=p+1 from by omega] at r2
   have B:0≤wAt W (p+1)∧wAt W (p+1)< ((l.map slE).length:Int):=by omega
   have st:=KP (l:=l) (x:=x) hlt
   refine⟨⟨by omega,by omega⟩,by rw[Int.toNat_natCast];exact r1,inR (by omega) (by omega),⟨by omega,by rw[lI];omega⟩,by rw[show ((p:Int)+1).toNat=p+1 from by omega];exact r2,B,eL B.1 B.2 (fX _),⟨by omega,by omega,Nat.le_refl _,by rw[lW];exact Nat.le_refl _⟩, ?_,inR (by omega) (by omega),(o++[⟨wAt W p,at' l (wAt W (p+1)).toNat⟩],p+1), ?_,⟨hlt, ?_⟩,by show W.length-(p+1)<W.length-p;omega⟩
   ·rw[List.take_of_length_le (by rw[lW];exact Nat.le_refl _)]
    show _=List.map wrE _
    rw[List.map_append];rfl
   ·unfold sV
    dsimp only
    rw[List.length_append,←hx];rfl
   ·show (o++[_])++wwL l x (W.drop (p+1))=_
    rw[←hI,st,List.append_assoc];rfl
  ·have hp:p+1=W.length:=by have:=of_decide_eq_false hge;omega
   have r1:=rd (i:=(p:Int)) (by omega) (by omega)
   rw[Int.toNat_natCast] at r1
   have el:=KQ (l:=l) (x:=x) hp
   rw[el] at hI
   have e1:W.length-1=p:=by omega
   rw[e1,lI,show ((W.length:Int)-1)=(p:Int) from by omega]
   refine⟨⟨by omega,by omega⟩,by rw[Int.toNat_natCast];exact r1,⟨by omega,by omega,Nat.le_refl _,by rw[lW];exact Nat.le_refl _⟩, ?_,⟨?_,rfl⟩,rfl⟩
   ·rw[List.take_of_length_le (by rw[lW];exact Nat.le_refl _),←hI]
    show _=List.map wrE _
    rw[List.map_append,←hx];rfl
   ·rw[lW,←hI,List.length_append];rfl
 ·exact hF.elim

end Go.Proofs.YtcabofadpheomaaGreat.L1
end

