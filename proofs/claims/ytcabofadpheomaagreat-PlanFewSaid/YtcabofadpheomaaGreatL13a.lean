/-
 Texts in one: L13T L13P L13R.
-/
import Derived.Test.YtcabofadpheomaaGreatL12a
import Derived.Test.YtcabofadpheomaaGreatMa

section
namespace Go.Proofs.YtcabofadpheomaaGreat.L1
open Go.Sx Go.Sx.M

def pL:List Arg→(Res→Prop)→Prop
 | [.row r_l],R=>r_l=(deS r_l).map slE∧(deS r_l).length≤1000000∧R (.v (.bool (orE (ensS (deS r_l)))))
 |_,_=>False

def yC:List Arg→(Res→Prop)→Prop
 | [.row r_l, .v (.agg [.w64 v, .w64 w, .w64 m, .w64 n, .int .i64 k, .int .i64 j])],R=>r_l=(deS r_l).map slE∧(deS r_l).length≤1000000∧R (.v (.tuple [.int .i64 (gfC (deS r_l) ⟨v,w,m,n,k,j⟩), .int .i64 (gtC (deS r_l) ⟨v,w,m,n,k,j⟩)]))
 |_,_=>False

def oM:List Arg→(Res→Prop)→Prop
 | [.row r_l, .v (.agg [.w64 v, .w64 w, .w64 m, .w64 n, .int .i64 k, .int .i64 j])],R=>r_l=(deS r_l).map slE∧(deS r_l).length≤1000000∧R (.many [.vrow 48 8 ((wC (deS r_l) ⟨v,w,m,n,k,j⟩).map wrE), .v (.int .i64 (eC (deS r_l) ⟨v,w,m,n,k,j⟩))])
 |_,_=>False

end Go.Proofs.YtcabofadpheomaaGreat.L1
end

section
namespace Go.Proofs.YtcabofadpheomaaGreat.L1
open Go.Sx Go.Sx.M

def mJ(l:List Sl)(x:En)(p:Nat):St:=⟨[.any, .any, .any, .ptr 1 0 0 true, .any, .any, .int .i64 (gpP l (bfS x) p), .int .i64 (gpM l (afS x) p), .any, .any, .any, .any, .vsl 0 0 (l.map slE).length, .int .i64 (l.map slE).length, .int .i64 p, .any, .any, .any, .any, .any, .any, .any, .any, .any, .any, .any, .any, .any, .any, .any, .any, .any, .any, .any, .any, .any, .any, .any, .any, .any, .any, .any, .any],[pq l,some ⟨true,44,6,true,[enE x]⟩]⟩
def NW:Modes:=⟨[0,0,0,1,0,0,2,1,0,0,0,0,1,1,2,0,0,0,0,0,0,0,0,0,0,0,0,0,0,0,0,0,0,0,0,0,0,0,0,0,0,0,0],[],[],[],[]⟩
def PN:Modes:=⟨[0,0,0,1,0,0,1,1,0,0,0,0,1,1,1,0,0,0,0,0,0,0,0,0,0,0,0,0,0,0,0,0,0,0,0,0,0,0,0,0,0,0,0],[],[],[],[]⟩
def NX:Modes:=⟨[0,0,0,0,0,0,1,1,0,0,0,0,0,0,0,0,0,0,0,0,0,0,0,0,0,0,0,0,0,0,0,0,0,0,0,0,0,0,0,0,0,0,0],[],[],[],[]⟩
def pg13T:List Hint:=[.br true]
def MQ(l:List Sl)(x:En):List Hint:=[.linv _ 0 (mJ l x) (fun p=>p≤l.length) (fun p=>l.length+1-p) NW PN NX (fun _=>[]) fun p=>
 [.fork [.dy, .cell (slE (at' l p)), .fork [.fork [.nw, .br true, .fork [.nw] [.nw]] [.br true, .fork [.nw] [.nw]]] [.br false, .nw]] []]]

noncomputable def li:List (FuncId×Sx.Spec):=[(54,ey [pSl] jJ),
 (100,ey [pEn] ql)]

theorem Bg(l:List Sl)(r:AV):run li Tryz.prog 60 [.vsl 0 0 (l.map slE).length] [some ⟨false,(pSl.getD (0,0)).1,(pSl.getD (0,0)).2,true,(l.map slE)⟩] [] (eM (.v r))=
  (let e:=(0:Nat);let d:=List.length (List.map slE l);let b:=List.take (d) (List.drop e (List.map slE l));let a:=List.map enE (ensS (deS (b)));let f:=List.length a;let c:=List.take (f) (List.drop e a);(e+d≤d∧b=List.map slE (deS (b))∧List.length (deS (b))≤(1000000:Nat)∧e+f≤f∧c=List.map enE (deE (c))∧List.length (deE (c))≤(9223372036854775807:Nat)∧AV.bool (orE (deE (c)))=r)):=by kernel_rfl

theorem yx:∀e∈li,eJ Tryz.prog e.1 e.2:=by
 intro e he
 simp only[li,List.mem_cons,List.not_mem_nil,or_false] at he
 rcases he with rfl|rfl
 ·exact lX
 ·exact BQ

theorem tM:eJ Tryz.prog 60 (ey [pSl] pL):=by
 refine eK (eS (l:=li) yx mixed noNG) fun l R hF=> ?_
 unfold pL at hF
 split at hF
 ·rename_i r_l
  obtain⟨hr_l,hl,hF⟩:=hF
  generalize deS r_l=l at hr_l hl hF
  subst hr_l
  refine⟨_,hF,rfl,[], ?_⟩
  show run li Tryz.prog _ [.vsl 0 0 (l.map slE).length] [some ⟨false,(pSl.getD (0,0)).1,(pSl.getD (0,0)).2,true,(l.map slE)⟩] _ _
  rw[Bg];(conv=>zeta)
  have hE:=fJ l
  simp only[eT,fG,gg,zLe,true_and,and_true]
  exact⟨hl,by omega⟩
 ·exact hF.elim

noncomputable def mY:List (FuncId×Sx.Spec):=[(103,ey [none,none] pp)]

theorem DX(l:List Sl)(v w m n:BitVec 64)(k j:Int)(r:AV):run mY Tryz.prog 101 [.vsl 0 0 (l.map slE).length, .agg [.w64 v, .w64 w, .w64 m, .w64 n, .int .i64 k, .int .i64 j]] [some ⟨false,(pSl.getD (0,0)).1,(pSl.getD (0,0)).2,true,(l.map slE)⟩] (MQ l ⟨v,w,m,n,k,j⟩) (eM (.v r))=
  (let M:=AV.w64;let F:=(1:Nat);let C:=(0:Nat);let B:=Blk.mk false (46:TypeId) (7:Nat) true (List.map slE l);let y:=List.length l;let x:=AV.ptr (C+F) C C true;let s:=En.mk v w m n k j;let L:=mJ l s;let q:=List.length (List.map slE l);let K:=AV.vsl C C q;let G:=(↑q:Int);let o:=AV.int IntKind.i64;let H:=[AV.agg [M v,M w,M m,M n,o k,o j]];let h:=[some B,some (Blk.mk true (44:TypeId) (6:Nat) true H)];let g:=AV.any;((St.mk [g,g,g,x,g,g,o (0:Int),o G,g,g,g,g,K,o G,o (0:Int),g,g,g,g,g,g,g,g,g,g,g,g,g,g,g,g,g,g,g,g,g,g,g,g,g,g,g,g] [some B,some (Blk.mk true (44:Nat) (6:Nat) true H)]=L C∧Nat.le C (y))∧∀(a:Nat),let J:=at' l a;let I:=o (↑(gpP l (bfS s) a):Int);let E:=(↑a:Int);let O:=Decidable.decide (E<G);let A:=(↑(gpM l (afS s) a):Int);let N:=o (if E<A then E else A);let z:=Sl.e J;let u:=E+(1:Int);let D:=inRange IntKind.i64 u;let t:=St.mk [g,g,g,x,g,g,I,o A,g,g,g,g,K,o G,o u,g,g,g,g,g,g,g,g,g,g,g,g,g,g,g,g,g,g,g,g,g,g,g,g,g,g,g,g] h;let i:=En.mk z.1 z.2 z.3 z.4 z.5 z.6;Nat.le a (y)→(O=true→((0:Int)≤E∧E<G)∧Blk.read Proofs.Tryz.prog B (46:Nat) (C+Int.toNat E) C=some (AV.agg [AV.bool J.1,M z.1,M z.2,M z.3,M z.4,o z.5,o z.6])∧(J.1=true→(abE i s=true→D∧J.1=true∧(abE s i=true→D∧∃(b:Nat),St.mk [g,g,g,x,g,g,o u,N,g,g,g,g,K,o G,o u,g,g,g,g,g,g,g,g,g,g,g,g,g,g,g,g,g,g,g,g,g,g,g,g,g,g,g,g] h=L b∧Nat.le b (y)∧y+F-b<y+F-a)∧(abE s i=false→D∧∃(c:Nat),St.mk [g,g,g,x,g,g,o u,o A,g,g,g,g,K,o G,o u,g,g,g,g,g,g,g,g,g,g,g,g,g,g,g,g,g,g,g,g,g,g,g,g,g,g,g,g] h=L c∧Nat.le c (y)∧y+F-c<y+F-a))∧(abE i s=false→J.1=true∧(abE s i=true→D∧∃(d:Nat),St.mk [g,g,g,x,g,g,I,N,g,g,g,g,K,o G,o u,g,g,g,g,g,g,g,g,g,g,g,g,g,g,g,g,g,g,g,g,g,g,g,g,g,g,g,g] h=L d∧Nat.le d (y)∧y+F-d<y+F-a)∧(abE s i=false→D∧∃(e:Nat),t=L e∧Nat.le e (y)∧y+F-e<y+F-a)))∧(J.1=false→J.1=false∧D∧∃(f:Nat),t=L f∧Nat.le f (y)∧y+F-f<y+F-a))∧(O=false→AV.tuple [I,o A]=r))):=by kernel_rfl

theorem Bm:∀e∈mY,eJ Tryz.prog e.1 e.2:=by
 intro e he
 simp only[mY,List.mem_cons,List.not_mem_nil,or_false] at he
 rcases he with rfl
 ·exact qL

theorem Hb:eJ Tryz.prog 101 (ey [pSl,none] yC):=by
 refine eK (eS (l:=mY) Bm mixed noNG) fun l R hF=> ?_
 unfold yC at hF
 split at hF
 ·rename_i r_l v w m n k j
  obtain⟨hr_l,hl,hF⟩:=hF
  generalize deS r_l=l at hr_l hl hF
  subst hr_l
  refine⟨_,hF,rfl,(MQ l ⟨v,w,m,n,k,j⟩), ?_⟩
  show run mY Tryz.prog _ [.vsl 0 0 (l.map slE).length, .agg [.w64 v, .w64 w, .w64 m, .w64 n, .int .i64 k, .int .i64 j]] [some ⟨false,(pSl.getD (0,0)).1,(pSl.getD (0,0)).2,true,(l.map slE)⟩] _ _
  rw[DX];(conv=>zeta)
  generalize hx:(⟨v,w,m,n,k,j⟩:En)=x
  have hlm:(l.map slE).length=l.length:=List.length_map _
  refine⟨⟨by unfold mJ;rw[hlm,←hx];rfl,Nat.zero_le _⟩, ?_⟩
  intro p (hp0:p≤l.length)
  have i0:inRange .i64 ((p:Int)+1):=inR (by omega) (by omega)
  refine⟨fun hlt=> ?_,fun hge=> ?_⟩
  ·have hp:p<l.length:=by have:=of_decide_eq_true hlt;omega
   have B:0≤(p:Int)∧(p:Int)< ((l.map slE).length:Int):=by omega
   have g1:gpP l (bfS x) (p+1)=if bfS x (at' l p) then p+1 else gpP l (bfS x) p:=rfl
   have g2:gpM l (afS x) (p+1)=if afS x (at' l p) then (if p<gpM l (afS x) p then p else gpM l (afS x) p) else gpM l (afS x) p:=rfl
   have hm:l.length+1-(p+1)<l.length+1-p:=by omega
   have bT:(at' l p).ok=true→abE (at' l p).e x=true→gpP l (bfS x) (p+1)=p+1:=fun ho h=>by
    rw[g1,if_pos (by unfold bfS;rw[ho,h];rfl)]
   have bF:(at' l p).ok=true→abE (at' l p).e x=false→gpP l (bfS x) (p+1)=gpP l (bfS x) p:=fun ho h=>by
    rw[g1,if_neg (by unfold bfS;rw[ho,h];simp)]
   have aT:(at' l p).ok=true→abE x (at' l p).e=true→((gpM l (afS x) (p+1):Nat):Int)=if (p:Int)< (gpM l (afS x) p:Nat) then (p:Int) else (gpM l (afS x) p:Nat):=fun ho h=>by
    rw[g2,if_pos (by unfold afS;rw[ho,h];rfl)]
    split
    ·rw[if_pos (by omega)]
    ·rw[if_neg (by omega)]
   have aF:(at' l p).ok=true→abE x (at' l p).e=false→gpM l (afS x) (p+1)=gpM l (afS x) p:=fun ho h=>by
    rw[g2,if_neg (by unfold afS;rw[ho,h];simp)]
   refine⟨B,eL B.1 B.2 (fX _),fun ho=>⟨fun h1=>⟨i0,ho,fun h2=>⟨i0,p+1, ?_,hp,hm⟩,fun h2=>⟨i0,p+1, ?_,hp,hm⟩⟩,fun h1=>⟨ho,fun h2=>⟨i0,p+1, ?_,hp,hm⟩,fun h2=>⟨i0,p+1, ?_,hp,hm⟩⟩⟩,fun ho=>⟨ho,i0,p+1, ?_,hp,hm⟩⟩
   ·unfold mJ
    rw[bT ho h1,aT ho h2,←hx];rfl
   ·unfold mJ
    rw[bT ho h1,aF ho h2,←hx];rfl
   ·unfold mJ
    rw[bF ho h1,aT ho h2,←hx];rfl
   ·unfold mJ
    rw[bF ho h1,aF ho h2,←hx];rfl
   ·unfold mJ
    rw[g1,g2,FT ho,F4 ho,←hx];rfl
  ·have hp:p=l.length:=by have:=of_decide_eq_false hge;omega
   subst hp
   rw[LN];rfl
 ·exact hF.elim

end Go.Proofs.YtcabofadpheomaaGreat.L1
end

section
namespace Go.Proofs.YtcabofadpheomaaGreat.L1
open Go.Sx Go.Sx.M

def MH:AV:= .func (.func 103) [] []
def MG:AV:= .func (.func 104) [] []

def kS(g:Int):List Nat→Int
 | []=>g
 |j::_=>j

def Rg:AV:= .func (.func 128) [] [.ptr 2 0 0 true, .ptr 3 0 0 true, .ptr 1 0 0 true, .ptr 4 0 0 true]

def wyB(F:List Wr→List AV)(l:List Sl)(x:En)(s:Int)(fn:AV)(r:List Nat)(c:Int):Hp:=
 [pq l,some ⟨true,31,1,false,[.vsl 0 0 (l.map slE).length]⟩,some ⟨true,3,1,true,[.int .i64 c]⟩,some ⟨true,3,1,true,[.int .i64 s]⟩,some ⟨true,169,1,true,[fn]⟩,some ⟨true,46,7,true,[slE (mvC l x r)]⟩,some ⟨true,48,8,true,F (wsC l x r)⟩]
def F9(F:List Wr→List AV)(l:List Sl)(x:En)(g s:Int)(fn:AV)(r:List Nat):St:=⟨[.any, .any, .any, .any, .any, .ptr 1 0 0 true, .any, .ptr 2 0 0 true, .any, .any, .any,Rg, .vsl 6 0 r.length, .ptr 5 0 0 true, .any, .any, .any, .any, .any, .any, .any, .any, .any, .any, .any, .any, .any, .any, .any, .any, .any, .any, .any, .any, .any, .any, .any],wyB F l x s fn r (kS g r)⟩
def O9:Modes:=⟨[0,0,0,0,0,1,0,1,0,0,0,1,1,1,0,0,0,0,0,0,0,0,0,0,0,0,0,0,0,0,0,0,0,0,0,0,0],[],[2],[],[(12,48,8)]⟩
def wyM:Modes:=⟨[0,0,0,0,0,1,0,1,0,0,0,1,1,1,0,0,0,0,0,0,0,0,0,0,0,0,0,0,0,0,0,0,0,0,0,0,0],[],[1,5,7,11,13],[],[]⟩
def Pa:Modes:=⟨[0,0,0,0,0,0,0,0,0,0,1,0,1,0,0,0,0,0,0,0,0,0,0,0,0,0,0,0,0,0,0,0,0,0,0,0,0],[],[],[],[]⟩
def Re(F:List Wr→List AV)(l:List Sl)(x:En)(s:Int)(fn:AV)(r:List Nat)(c:Int):St:=⟨[.any, .ptr 2 0 0 true, .ptr 3 0 0 true, .ptr 1 0 0 true, .ptr 4 0 0 true, .ptr 7 0 0 true, .any, .any, .any, .any, .any, .any, .any, .any, .any, .any, .any, .any, .any, .any, .any, .any, .any, .any, .any, .any, .any, .any, .any, .any, .any, .any, .any, .any, .any, .any, .any],wyB F l x s fn r c++[some ⟨true,44,6,true,[enE (mvC l x r).e]⟩]⟩
def nxM:Modes:=⟨[0,1,1,1,1,1,0,0,0,0,0,0,0,0,0,0,0,0,0,0,0,0,0,0,0,0,0,0,0,0,0,0,0,0,0,0,0],[],[],[],[]⟩
def Rf:Modes:=⟨[0,0,0,0,0,0,1,0,0,0,0,0,0,0,0,0,0,0,0,0,0,0,0,0,0,0,0,0,0,0,0,0,0,0,0,0,0],[],[],[],[]⟩

def xw(F:List Wr→List AV)(l:List Sl)(W:List Wr)(i:Nat):St:=⟨[.vsl 1 0 W.length, .any, .int .i64 i, .int .i64 ((W.length:Int)-1-i), .any, .any, .any, .any, .any, .any, .any, .any, .any, .any, .any, .any, .any, .any, .any, .any, .any, .any, .any, .any, .any, .any, .any, .any],[pq l,some ⟨true,48,8,true,F (rvS W i)⟩]⟩
def QM:Modes:=⟨[1,0,2,1,0,0,0,0,0,0,0,0,0,0,0,0,0,0,0,0,0,0,0,0,0,0,0,0],[],[],[],[]⟩
def rvM:Modes:=⟨[1,0,1,1,0,0,0,0,0,0,0,0,0,0,0,0,0,0,0,0,0,0,0,0,0,0,0,0],[],[],[],[]⟩
def QN:Modes:=⟨[1,0,0,0,0,0,0,0,0,0,0,0,0,0,0,0,0,0,0,0,0,0,0,0,0,0,0,0],[],[],[],[]⟩
def rvH(F:List Wr→List AV)(l:List Sl)(W:List Wr):List Hint:=[.nw, .linv _ 0 (xw F l W) (fun i=>2*i≤W.length+1) (fun i=>W.length-i) QM rvM QN (fun _=>[]) fun i=>
 [.fork [.wrc [], .dy, .cell (wrE (at' W (W.length-1-i))), .dy, .cell (wrE (at' W i)), .dy, .rows (F (rvT W i)), .dy, .rows (F (rvS W (i+1))), .nw, .nw] []]]

def nxH(F:List Wr→List AV)(l:List Sl)(x:En)(s:Int)(fn:AV)(r:List Nat)(k:Nat→Int)(i0:Nat)(p:Nat→Nat)(J:Nat→Prop)(μ:Nat→Nat):List Hint:=[.nw, .linv _ i0 (fun i=>Re F l x s fn r (k i)) J μ nxM nxM Rf (fun i=>[.rows (F (wsC l x (p i::r))), .dy, .cell (slE (at' l (p i)))]) fun i=>
 [.fork [.fork [.dy, .cell (.bool (at' l (p i)).ok), .fork [] [.dy, .cell (enE (at' l (p i)).e), .fork [] [.nw]]] []] []]]

def bwI(l:List Sl)(x:En)(g:Int)(r:List Nat):Prop:= -1≤kS g r∧kS g r<l.length∧(r.length:Int)≤kS g r+1∧(if (mvC l x r).ok then bwS l x r (kS g r+1).toNat else (wsC l x r).reverse)=bwS l x [] (g+1).toNat
def bwH(F:List Wr→List AV)(l:List Sl)(x:En)(g s:Int):List Hint:=[.linv _ [] (F9 F l x g s MH) (bwI l x g) (fun r=>l.length-(kS g r+1).toNat) O9 wyM Pa (fun r=>rvH F l (wsC l x r)) fun r=>
 [.fork (nxH F l x s MH r (fun i=>(i:Int)) (kS g r+1).toNat id (fun i=>(kS g r+1).toNat≤i∧i≤l.length∧bwS l x r i=bwS l x [] (g+1).toNat) (fun i=>l.length+1-i)) []]]

def awI(l:List Sl)(x:En)(g:Int)(r:List Nat):Prop:=0≤kS g r∧kS g r≤l.length∧(r.length:Int)+kS g r≤l.length∧(if (mvC l x r).ok then awS l x r (kS g r).toNat else (wsC l x r).reverse)=awS l x [] g.toNat
def awH(F:List Wr→List AV)(l:List Sl)(x:En)(g s:Int):List Hint:=[.linv _ [] (F9 F l x g s MG) (awI l x g) (fun r=>(kS g r).toNat) O9 wyM Pa (fun r=>rvH F l (wsC l x r)) fun r=>
 [.fork (nxH F l x s MG r (fun i=>(i:Int)-1) (kS g r).toNat (fun i=>i-1) (fun i=>i≤(kS g r).toNat∧awS l x r i=awS l x [] g.toNat) (fun i=>i)) []]]

theorem wY{L:List Wr}{q:Nat}{z:Int}(hz:z.toNat=q)(h:q<L.length)(y:Wr):(Blk.mk true 48 8 true (List.map wrE L)).fits (0+z.toNat) 0 (wrE y)=true∧(Blk.mk true 48 8 true (List.map wrE L)).writes (0+z.toNat) 0 (wrE y) (List.map wrE (L.set q y)):=by
 have e:(List.map wrE L)[0+z.toNat]?=some (wrE (at' L q)):=by
  rw[Nat.zero_add,hz,List.getElem?_map,eZ h];rfl
 constructor
 ·unfold Blk.fits
  dsimp only
  rw[e];rfl
 ·unfold Blk.writes Blk.write
  dsimp only
  rw[e]
  show (List.map wrE L).set (0+z.toNat) (wrE y)=_
  rw[Nat.zero_add,hz,List.map_set]

theorem zT(l:List Sl):(l.map slE).map canon=l.map slE:=by
 rw[List.map_map]
 exact List.map_congr_left fun _ _=>rfl

theorem xr(x:Sl):e7 Tryz.prog 44 (slE x).cells 1=some (enE x.e):=by kernel_rfl

def IR(W:List Wr)(R:Res→Prop):Prop:=(W=[]→R (.v (.lit (.slice none 0 0))))∧(W≠[]→R (.row 48 8 (W.map wrE)))

def yi:List Arg→(Res→Prop)→Prop
 | [.row r_l, .v (.agg [.w64 v, .w64 w, .w64 m, .w64 n, .int .i64 k, .int .i64 j]), .v (.int .i64 g), .v (.int .i64 s), .v (.func (.func 103) [] [])],R=>r_l=(deS r_l).map slE∧(deS r_l).length≤1000000∧(s=1∧-1≤g∧g< (deS r_l).length)∧IR (bwS (deS r_l) ⟨v,w,m,n,k,j⟩ [] (g+1).toNat) R
 | [.row r_l, .v (.agg [.w64 v, .w64 w, .w64 m, .w64 n, .int .i64 k, .int .i64 j]), .v (.int .i64 g), .v (.int .i64 s), .v (.func (.func 104) [] [])],R=>r_l=(deS r_l).map slE∧(deS r_l).length≤1000000∧(s= -1∧0≤g∧g≤(deS r_l).length)∧IR (awS (deS r_l) ⟨v,w,m,n,k,j⟩ [] g.toNat) R
 |_,_=>False

noncomputable def jF:List (FuncId×Sx.Spec):=[(103,ey [none,none] pp)]

theorem AY:∀e∈jF,eJ Tryz.prog e.1 e.2:=by
 intro e he
 simp only[jF,List.mem_cons,List.not_mem_nil,or_false] at he
 rcases he with rfl
 ·exact qL

theorem CS(l:List Sl)(v w m n:BitVec 64)(k j g s:Int)(F:List Wr→List AV)(es:List AV):run jF Tryz.prog 102 [.vsl 0 0 (l.map slE).length, .agg [.w64 v, .w64 w, .w64 m, .w64 n, .int .i64 k, .int .i64 j], .int .i64 g, .int .i64 s, .func (.func 103) [] []] [some ⟨false,46,7,true,l.map slE⟩] (bwH F l ⟨v,w,m,n,k,j⟩ g s) (mt 48 8 es)=
  (let aS:=nat_lit 46;let aQ:=(2:Nat);let aO:=AV.agg;let aN:=nat_lit 3;let aK:=AV.bool;let aJ:=List.map slE l;let aC:=(3:TypeId);let aA:=(48:TypeId);let az:=(7:Nat);let ar:=(0:Int);let aq:=(8:Nat);let ai:=inRange IntKind.i64;let ah:=AV.ptr;let ag:=List.length l;let X:=AV.w64;let U:=(1:Int);let K:=AV.func (Fn.func (103:FuncId)) [] [];let I:=List.length aJ;let D:=Blk.mk true;let B:=Blk.mk false (46:TypeId) az true aJ;let y:=(1:Nat);let ab:=D (169:TypeId) y true [K];let x:=AV.any;let u:=(0:Nat);let aP:=ah (u+y+y+y) u u true;let aM:=ah (u+y+y+y+y) u u true;let aB:=ah (u+y+y+y+y+y) u u true;let aw:=D (31:TypeId) y false [AV.vsl u u I];let ap:=ah (u+y) u u true;let am:=ah (u+y+y) u u true;let Z:=D (nat_lit 31) y false [AV.vsl u u I];let Y:=[am,aP,ap,aM];let M:=St.mk [x,ah aQ u u true,ah (3:Nat) u u true,ah y u u true,ah (4:Nat) u u true,ah az u u true,x,x,x,x,x,x,x,x,x,x,x,x,x,x,x,x,x,x,x,x,x,x,x,x,x,x,x,x,x,x,x];let L:=St.mk [x,am,aP,ap,aM,ah (u+y+y+y+y+y+y+y) u u true,x,x,x,x,x,x,x,x,x,x,x,x,x,x,x,x,x,x,x,x,x,x,x,x,x,x,x,x,x,x,x];let t:=AV.int IntKind.i64;let aa:=D aC y true [t s];let E:=[some (Blk.mk false aS az true (List.map canon aJ)),some Z,some (D aN y true [t g]),some (D aN y true [t s]),some (D (nat_lit 169) y true [K]),some (D aS az true [aO [aK true,X v,X w,X m,X n,t k,t j]])];let i:=En.mk v w m n k j;let aT:=bwI l i g;let aD:=F9 F l i g s (K);let an:=bwS l i [] (Int.toNat (g+U));((St.mk [x,x,x,x,x,ap,x,am,x,x,x,AV.func (Fn.func (128:Nat)) [] Y,AV.vsl (List.length E) u u,aB,x,x,x,x,x,x,x,x,x,x,x,x,x,x,x,x,x,x,x,x,x,x,x] (E++[some (D aA aq true [])])=aD []∧aT [])∧∀(a:List Nat),let ax:=mvC l i a;let ac:=List.length a;let N:=Int.toNat (kS g a+U);let z:=wsC l i a;let af:=List.length z;let W:=D aA aq true (F z);let J:=(↑(af):Int);let r:=Sl.e ax;let P:=[aO [X r.1,X r.2,X r.3,X r.4,t r.5,t r.6]];let ak:=D (44:TypeId) (6:Nat) true P;let G:=D (46:TypeId) az true [aO [aK ax.1,X r.1,X r.2,X r.3,X r.4,t r.5,t r.6]];aT a→(ax.1=true→ai (kS g a+s)∧(L [some B,some Z,some (D aN y true [t (kS g a+s)]),some aa,some ab,some G,some W,some (D (44:Nat) (6:Nat) true P)]=M ([some B,some aw,some (D aC y true [t (↑(N):Int)]),some aa,some ab,some G,some W]++[some ak])∧N≤N∧N≤ag∧bwS l i a (N)=an)∧∀(b:Nat),let au:=at' l (id b);let V:=(↑b:Int);let aR:=Decidable.decide (ar≤V);let aI:=Decidable.decide (V< (↑I:Int));let aE:=u+Int.toNat V;let ae:=ar≤V∧V< (↑I:Int);let H:=[aO [t V,aK ax.1,X r.1,X r.2,X r.3,X r.4,t r.5,t r.6]];let av:=List.take (ac) (F z)++H=F (wsC l i (b::a));let S:=(ac+y)*(64:Nat)≤(140737488355328:Nat)∧ac+y≤(9223372036854775807:Nat)∧u+y≤List.length H∧ac≤List.length (F z);let A:=Sl.e au;let al:=abE (En.mk r.1 r.2 r.3 r.4 r.5 r.6) (En.mk A.1 A.2 A.3 A.4 A.5 A.6);let Q:=aO [aK au.1,X A.1,X A.2,X A.3,X A.4,t A.5,t A.6];let aj:=Blk.read Proofs.Tryz.prog B (46:Nat) aE u=some (Q);let o:=St.mk [x,x,x,x,x,ap,x,am,x,x,x,AV.func (Fn.func (128:FuncId)) [] Y,AV.vsl (u+y+y+y+y+y+y) u (ac+y),aB,x,x,x,x,x,x,x,x,x,x,x,x,x,x,x,x,x,x,x,x,x,x,x] [some B,some Z,some (D aC y true [t V]),some aa,some ab,some (D aS az true [Q]),some (D (48:Nat) aq true (F (wsC l i (b::a))))];N≤b∧b≤ag∧bwS l i a b=an→(aR=true→(aI=true→ae∧Blk.read Proofs.Tryz.prog B (4:Nat) aE (u+u)=some (aK au.1)∧((!au.1)=true→S∧av∧ae∧aj∧∃(c:List Nat),o=aD c∧aT c∧ag-Int.toNat (kS g c+U)<ag-N)∧((!au.1)=false→ae∧Blk.read Proofs.Tryz.prog B (44:Nat) aE (u+y)=some (aO [X A.1,X A.2,X A.3,X A.4,t A.5,t A.6])∧(al=true→S∧av∧ae∧aj∧∃(d:List Nat),o=aD d∧aT d∧ag-Int.toNat (kS g d+U)<ag-N)∧(al=false→ai (V+s)∧∃(e:Nat),L [some B,some Z,some (D aN y true [t (V+s)]),some aa,some ab,some G,some W,some ak]=M ([some B,some aw,some (D aC y true [t (↑e:Int)]),some aa,some ab,some G,some W]++[some ak])∧(N≤e∧e≤ag∧bwS l i a e=an)∧ag+y-e<ag+y-b)))∧(aI=false→es=[]))∧(aR=false→es=[]))∧(ax.1=false→ai ((↑(ac):Int)-U)∧(St.mk [AV.vsl (u+y) u (ac),x,t ar,t ((↑(ac):Int)-U),x,x,x,x,x,x,x,x,x,x,x,x,x,x,x,x,x,x,x,x,x,x,x,x] [some B,some W]=xw F l z u∧Nat.le (aQ*u) (af+y))∧∀(f:Nat),let ay:=D (nat_lit 48) aq true (F (rvT z f));let ad:=Sl.e (Wr.s (at' z f));let T:=(↑f:Int);let aL:=Decidable.decide (T<J-U-T);let aH:=u+Int.toNat T;let aG:=ar≤J-U-T∧J-U-T<J;let ao:=u+Int.toNat (J-U-T);let R:=D aA aq true (F (rvS z f));let O:=Wr.s (at' z (af-y-f));let aF:=Sl.e O;let C:=aO [t (at' z f).1,aK (Wr.s (at' z f)).1,X ad.1,X ad.2,X ad.3,X ad.4,t ad.5,t ad.6];let q:=aO [t (at' z (af-y-f)).1,aK O.1,X aF.1,X aF.2,X aF.3,X aF.4,t aF.5,t aF.6];Nat.le (aQ*f) (af+y)→(aL=true→aG∧Blk.read Proofs.Tryz.prog R (48:Nat) ao u=some q∧(ar≤T∧T<J)∧Blk.read Proofs.Tryz.prog R (48:Nat) aH u=some C∧(ar≤T∧T<J)∧Blk.fits R aH u q=true∧Blk.writes R aH u q (F (rvT z f))∧aG∧Blk.fits ay ao u C=true∧Blk.writes ay ao u C (F (rvS z (f+y)))∧ai (T+U)∧ai (J-U-T-U)∧∃(h:Nat),St.mk [AV.vsl (u+y) u (af),x,t (T+U),t (J-U-T-U),x,x,x,x,x,x,x,x,x,x,x,x,x,x,x,x,x,x,x,x,x,x,x,x] [some B,some (D (nat_lit 48) aq true (F (rvS z (f+y))))]=xw F l z h∧Nat.le (aQ*h) (af+y)∧af-h<af-f)∧(aL=false→u<ac∧ac=List.length es∧some R=some (D aA aq true es))))):=by kernel_rfl

theorem CT(l:List Sl)(v w m n:BitVec 64)(k j g:Int)(hl:l.length≤1000000)(hg0: -1≤g)(hg1:g<l.length):∃hs,run jF Tryz.prog 102 [.vsl 0 0 (l.map slE).length, .agg [.w64 v, .w64 w, .w64 m, .w64 n, .int .i64 k, .int .i64 j], .int .i64 g, .int .i64 1, .func (.func 103) [] []] [some ⟨false,46,7,true,l.map slE⟩] hs (mt 48 8 ((bwS l ⟨v,w,m,n,k,j⟩ [] (g+1).toNat).map wrE)):=by
 refine⟨bwH (List.map wrE) l ⟨v,w,m,n,k,j⟩ g 1, ?_⟩
 rw[CS];(conv=>zeta)
 generalize hx:(⟨v,w,m,n,k,j⟩:En)=x
 have hlm:(l.map slE).length=l.length:=List.length_map _
 have lW:∀L:List Wr,(List.map wrE L).length=L.length:=fun L=>List.length_map _
 refine⟨⟨by rw[zT];unfold F9;rw[←hx];rfl,hg0,hg1,by show (0:Int)≤g+1;omega,rfl⟩, ?_⟩
 rintro r ⟨h0,h1,hr,hI⟩
 refine⟨fun ho=> ?_,fun ho=> ?_⟩
 ·have ho:(mvC l x r).ok=true:=ho
  rw[if_pos ho] at hI
  have ek:(((kS g r+1).toNat:Nat):Int)=kS g r+1:=by omega
  refine⟨inR (by omega) (by omega),⟨by rw[ek];rfl,Nat.le_refl _,by omega,hI⟩, ?_⟩
  rintro i ⟨hi0,hi1,hJ⟩
  refine⟨fun _=>⟨fun hlt=> ?_,fun hge=> ?_⟩,fun h=>absurd (of_decide_eq_false h) (by omega)⟩
  ·have hi:i<l.length:=by have:=of_decide_eq_true hlt;omega
   have B:0≤(i:Int)∧(i:Int)< ((l.map slE).length:Int):=by omega
   have fin:∀T:List Wr,T=wsC l x (i::r)→T.length=r.length+1:=fun T hT=>by rw[hT,jV];rfl
   have nx:(if (mvC l x (i::r)).ok then bwS l x (i::r) (kS g (i::r)+1).toNat else (wsC l x (i::r)).reverse)=bwS l x [] (g+1).toNat→((((r.length+1)*64≤140737488355328∧r.length+1≤9223372036854775807∧0+1≤[wrE ⟨i,mvC l x r⟩].length∧r.length≤(List.map wrE (wsC l x r)).length)∧List.take r.length (List.map wrE (wsC l x r))++[wrE ⟨i,mvC l x r⟩]=List.map wrE (wsC l x (i::r)))∧bwI l x g (i::r)∧l.length-(kS g (i::r)+1).toNat<l.length-(kS g r+1).toNat):=fun hn=>by
    refine⟨⟨⟨by omega,by omega,Nat.le_refl _,by rw[lW,jV];exact Nat.le_refl _⟩, ?_⟩,⟨by show (-1:Int)≤(i:Int);omega,by show (i:Int)<l.length;omega,by show ((r.length+1:Nat):Int)≤(i:Int)+1;omega,hn⟩,by show l.length-((i:Int)+1).toNat<_;omega⟩
    rw[List.take_of_length_le (by rw[lW,jV];exact Nat.le_refl _),wsC,List.map_append];rfl
   refine⟨B,eL B.1 B.2 (by rw[Int.toNat_natCast];exact zR _),fun hn=> ?_,fun hy=>⟨B,eL B.1 B.2 (by rw[Int.toNat_natCast];exact xr _),fun ha=> ?_,fun ha=> ?_⟩⟩
   ·have hn:(at' l i).ok=false:=by have:(!(at' l i).ok)=true:=hn;simpa using this
    obtain⟨⟨d1,d2⟩,d3,d4⟩:=nx (by rw[if_neg (show¬(mvC l x (i::r)).ok=true by show¬(at' l i).ok=true;rw[hn];simp),←FR hi hn];exact hJ)
    exact⟨d1,d2,B,eL B.1 B.2 (by rw[Int.toNat_natCast];exact fX _),i::r,by rw[←hx];rfl,d3,d4⟩
   ·have hy:(at' l i).ok=true:=by have:(!(at' l i).ok)=false:=hy;simpa using this
    obtain⟨⟨d1,d2⟩,d3,d4⟩:=nx (by rw[if_pos (show (mvC l x (i::r)).ok=true from hy),show (kS g (i::r)+1).toNat=i+1 by show ((i:Int)+1).toNat=i+1;omega,←Mm hi hy ha];exact hJ)
    exact⟨d1,d2,B,eL B.1 B.2 (by rw[Int.toNat_natCast];exact fX _),i::r,by rw[←hx];rfl,d3,d4⟩
   ·have hy:(at' l i).ok=true:=by have:(!(at' l i).ok)=false:=hy;simpa using this
    exact⟨inR (by omega) (by omega),i+1,rfl,⟨by omega,hi,by rw[←FQ hi hy ha];exact hJ⟩,by omega⟩
  ·have hi:i=l.length:=by have:=of_decide_eq_false hge;omega
   subst hi
   rw[OY] at hJ
   rw[←hJ];rfl
 ·have ho:(mvC l x r).ok≠true:=by have:(mvC l x r).ok=false:=ho;rw[this];simp
  rw[if_neg ho] at hI
  have hW:(wsC l x r).length=r.length:=jV l x r
  refine⟨inR (by omega) (by omega),⟨by unfold xw;rw[zZ,hW,Int.natCast_zero,Int.sub_zero];rfl,by show 2*0≤_;omega⟩, ?_⟩
  intro i (hi0:2*i≤(wsC l x r).length+1)
  rw[hW] at hi0
  refine⟨fun hlt=> ?_,fun hge=> ?_⟩
  ·have hi:2*i+1< (wsC l x r).length:=by have:=of_decide_eq_true hlt;omega
   have ej:(((wsC l x r).length:Int)-1-i).toNat=(wsC l x r).length-1-i:=by omega
   have Bj:0≤((wsC l x r).length:Int)-1-i∧((wsC l x r).length:Int)-1-i< ((wsC l x r).length:Int):=by omega
   have Bi:0≤(i:Int)∧(i:Int)< ((wsC l x r).length:Int):=by omega
   have pI:=wY (L:=rvS (wsC l x r) i) (q:=i) (z:=(i:Int)) (Int.toNat_natCast i) (by rw[gJ];omega) (at' (wsC l x r) ((wsC l x r).length-1-i))
   have pJ:=wY (L:=rvT (wsC l x r) i) (z:=((wsC l x r).length:Int)-1-i) ej (by rw[xu];omega) (at' (wsC l x r) i)
   rw[z6 hi] at pJ
   have rJ:at' (rvS (wsC l x r) i) ((wsC l x r).length-1-i)=at' (wsC l x r) ((wsC l x r).length-1-i):=xx (by omega) (by omega) (by omega)
   have rI:at' (rvS (wsC l x r) i) i=at' (wsC l x r) i:=xx (by omega) (by omega) (by omega)
   refine⟨Bj,eL Bj.1 (by rw[lW,gJ];exact Bj.2) (by rw[ej,rJ];exact kL _),Bi,eL Bi.1 (by rw[lW,gJ];exact Bi.2) (by rw[Int.toNat_natCast,rI];exact kL _),Bi,pI.1,pI.2,Bj,pJ.1,pJ.2,inR (by omega) (by omega),inR (by omega) (by omega),i+1, ?_, ?_, ?_⟩
   ·unfold xw
    rw[show ((wsC l x r).length:Int)-1-((i+1:Nat):Int)=((wsC l x r).length:Int)-1-i-1 from by omega]
    rfl
   ·show 2*(i+1)≤(wsC l x r).length+1
    omega
   ·show (wsC l x r).length-(i+1)<_
    omega
  ·have hi:(wsC l x r).length≤2*i+1:=by have:=of_decide_eq_false hge;omega
   rw[z7 hi,hI]
   have hne:r≠[]:=by rintro rfl;exact ho rfl
   exact⟨List.length_pos_iff.2 hne,by rw[lW,←hI,List.length_reverse,hW],rfl⟩

theorem CQ(l:List Sl)(v w m n:BitVec 64)(k j g s:Int)(F:List Wr→List AV)(es:List AV):run jF Tryz.prog 102 [.vsl 0 0 (l.map slE).length, .agg [.w64 v, .w64 w, .w64 m, .w64 n, .int .i64 k, .int .i64 j], .int .i64 g, .int .i64 s, .func (.func 104) [] []] [some ⟨false,46,7,true,l.map slE⟩] (awH F l ⟨v,w,m,n,k,j⟩ g s) (mt 48 8 es)=
  (let bI:=(2:Nat);let bC:=(7:Nat);let bB:=List.map slE l;let bp:=AV.agg;let bj:=AV.bool;let bg:=(0:Int);let bf:=AV.ptr;let ba:=inRange IntKind.i64;let aZ:=at' l;let aX:=AV.func (Fn.func (104:FuncId)) [] [];let aU:=AV.w64;let aM:=(1:Int);let aH:=List.length bB;let aB:=Blk.mk true;let be:=aB (nat_lit 48) (8:Nat) true;let bd:=aB (nat_lit 46) bC true;let aL:=aB (48:TypeId) (8:Nat) true;let aA:=Blk.mk false (46:TypeId) bC true bB;let ay:=AV.any;let ax:=(0:Nat);let aw:=AV.int IntKind.i64;let ar:=(1:Nat);let bH:=ax+ar;let bA:=bf (ax+ar+ar+ar) ax ax true;let bu:=bf (ax+ar+ar+ar+ar) ax ax true;let bo:=bf (ax+ar+ar+ar+ar+ar) ax ax true;let bk:=aB (31:TypeId) ar false [AV.vsl ax ax aH];let bb:=aB (nat_lit 3) ar true;let a6:=bf bH ax ax true;let a4:=bf (ax+ar+ar) ax ax true;let aY:=[a4,bA,a6,bu];let aV:=aB (nat_lit 31) ar false [AV.vsl ax ax aH];let aQ:=aB (3:TypeId) ar true;let bh:=aQ [aw s];let aN:=St.mk [ay,bf bI ax ax true,bf (3:Nat) ax ax true,bf ar ax ax true,bf (4:Nat) ax ax true,bf bC ax ax true,ay,ay,ay,ay,ay,ay,ay,ay,ay,ay,ay,ay,ay,ay,ay,ay,ay,ay,ay,ay,ay,ay,ay,ay,ay,ay,ay,ay,ay,ay,ay];let aK:=aB (169:TypeId) ar true [aX];let aI:=St.mk [ay,a4,bA,a6,bu,bf (ax+ar+ar+ar+ar+ar+ar+ar) ax ax true,ay,ay,ay,ay,ay,ay,ay,ay,ay,ay,ay,ay,ay,ay,ay,ay,ay,ay,ay,ay,ay,ay,ay,ay,ay,ay,ay,ay,ay,ay,ay];let aE:=[some (Blk.mk false (nat_lit 46) bC true (List.map canon bB)),some aV,some (bb [aw g]),some (bb [aw s]),some (aB (nat_lit 169) ar true [aX]),some (bd [bp [bj true,aU v,aU w,aU m,aU n,aw k,aw j]])];let aq:=En.mk v w m n k j;let bG:=awI l aq g;let bv:=F9 F l aq g s (aX);let bi:=awS l aq [] (Int.toNat g);((St.mk [ay,ay,ay,ay,ay,a6,ay,a4,ay,ay,ay,AV.func (Fn.func (128:Nat)) [] aY,AV.vsl (List.length aE) ax ax,bo,ay,ay,ay,ay,ay,ay,ay,ay,ay,ay,ay,ay,ay,ay,ay,ay,ay,ay,ay,ay,ay,ay,ay] (aE++[some (aL [])])=bv []∧bG [])∧∀(a:List Nat),let bn:=mvC l aq a;let a3:=List.length a;let a2:=Int.toNat (kS g a);let aD:=St.mk [ay,ay,ay,ay,ay,a6,ay,a4,ay,ay,ay,AV.func (Fn.func (128:FuncId)) [] aY,AV.vsl (ax+ar+ar+ar+ar+ar+ar) ax (a3+ar),bo,ay,ay,ay,ay,ay,ay,ay,ay,ay,ay,ay,ay,ay,ay,ay,ay,ay,ay,ay,ay,ay,ay,ay];let az:=wsC l aq a;let br:=aL (F az);let aJ:=List.length az;let aW:=(↑(aJ):Int);let au:=Sl.e bn;let bt:=En.mk au.1 au.2 au.3 au.4 au.5 au.6;let aO:=[bp [aU au.1,aU au.2,aU au.3,aU au.4,aw au.5,aw au.6]];let a9:=aB (44:TypeId) (6:Nat) true aO;let aF:=aB (46:TypeId) bC true [bp [bj bn.1,aU au.1,aU au.2,aU au.3,aU au.4,aw au.5,aw au.6]];bG a→(bn.1=true→ba (kS g a+s)∧(aI [some aA,some aV,some (bb [aw (kS g a+s)]),some bh,some aK,some aF,some br,some (aB (44:Nat) (6:Nat) true aO)]=aN ([some aA,some bk,some (aQ [aw ((↑(a2):Int)-aM)]),some bh,some aK,some aF,some br]++[some a9])∧a2≤a2∧awS l aq a (a2)=bi)∧∀(b:Nat),let a5:=F (wsC l aq ((b-ar)::a));let bx:=aB (48:Nat) (8:Nat) true (a5);let a1:=(↑b:Int);let bJ:=a1-aM;let bE:=Decidable.decide (bg≤a1-aM);let bs:=Decidable.decide (a1-aM< (↑aH:Int));let a7:=ax+Int.toNat bJ;let bm:=Blk.read Proofs.Tryz.prog aA (46:Nat) a7 ax;let aR:=bg≤a1-aM∧a1-aM< (↑aH:Int);let aG:=[bp [aw bJ,bj bn.1,aU au.1,aU au.2,aU au.3,aU au.4,aw au.5,aw au.6]];let bD:=List.take (a3) (F az)++aG=a5;let aT:=(a3+ar)*(64:Nat)≤(140737488355328:Nat)∧a3+ar≤(9223372036854775807:Nat)∧ax+ar≤List.length aG∧a3≤List.length (F az);b≤a2∧awS l aq a b=bi→(bE=true→(bs=true→aR∧Blk.read Proofs.Tryz.prog aA (4:Nat) a7 (ax+ax)=some (bj (aZ ((fun (c:Nat)=>c-ar) b)).1)∧((!(aZ ((fun (d:Nat)=>d-ar) b)).1)=true→aT∧bD∧aR∧bm=some (bp [bj (aZ ((fun (e:Nat)=>e-ar) b)).1,aU (Sl.e (aZ ((fun (f:Nat)=>f-ar) b))).1,aU (Sl.e (aZ ((fun (h:Nat)=>h-ar) b))).2,aU (Sl.e (aZ ((fun (o:Nat)=>o-ar) b))).3,aU (Sl.e (aZ ((fun (q:Nat)=>q-ar) b))).4,aw (Sl.e (aZ ((fun (r:Nat)=>r-ar) b))).5,aw (Sl.e (aZ ((fun (t:Nat)=>t-ar) b))).6])∧∃(u:List Nat),aD [some aA,some aV,some (aQ [aw bJ]),some bh,some aK,some (bd [bp [bj (aZ ((fun (x:Nat)=>x-ar) b)).1,aU (Sl.e (aZ ((fun (y:Nat)=>y-ar) b))).1,aU (Sl.e (aZ ((fun (z:Nat)=>z-ar) b))).2,aU (Sl.e (aZ ((fun (A:Nat)=>A-ar) b))).3,aU (Sl.e (aZ ((fun (B:Nat)=>B-ar) b))).4,aw (Sl.e (aZ ((fun (C:Nat)=>C-ar) b))).5,aw (Sl.e (aZ ((fun (D:Nat)=>D-ar) b))).6]]),some bx]=bv u∧bG u∧Int.toNat (kS g u)<a2)∧((!(aZ ((fun (E:Nat)=>E-ar) b)).1)=false→aR∧Blk.read Proofs.Tryz.prog aA (44:Nat) a7 bH=some (bp [aU (Sl.e (aZ ((fun (G:Nat)=>G-ar) b))).1,aU (Sl.e (aZ ((fun (H:Nat)=>H-ar) b))).2,aU (Sl.e (aZ ((fun (I:Nat)=>I-ar) b))).3,aU (Sl.e (aZ ((fun (J:Nat)=>J-ar) b))).4,aw (Sl.e (aZ ((fun (K:Nat)=>K-ar) b))).5,aw (Sl.e (aZ ((fun (L:Nat)=>L-ar) b))).6])∧(abE (En.mk (Sl.e (aZ ((fun (M:Nat)=>M-ar) b))).1 (Sl.e (aZ ((fun (N:Nat)=>N-ar) b))).2 (Sl.e (aZ ((fun (O:Nat)=>O-ar) b))).3 (Sl.e (aZ ((fun (P:Nat)=>P-ar) b))).4 (Sl.e (aZ ((fun (Q:Nat)=>Q-ar) b))).5 (Sl.e (aZ ((fun (R:Nat)=>R-ar) b))).6) bt=true→aT∧bD∧aR∧bm=some (bp [bj (aZ ((fun (S:Nat)=>S-ar) b)).1,aU (Sl.e (aZ ((fun (T:Nat)=>T-ar) b))).1,aU (Sl.e (aZ ((fun (U:Nat)=>U-ar) b))).2,aU (Sl.e (aZ ((fun (V:Nat)=>V-ar) b))).3,aU (Sl.e (aZ ((fun (W:Nat)=>W-ar) b))).4,aw (Sl.e (aZ ((fun (X:Nat)=>X-ar) b))).5,aw (Sl.e (aZ ((fun (Y:Nat)=>Y-ar) b))).6])∧∃(Z:List Nat),aD [some aA,some aV,some (aQ [aw bJ]),some bh,some aK,some (bd [bp [bj (aZ ((fun (aa:Nat)=>aa-ar) b)).1,aU (Sl.e (aZ ((fun (ab:Nat)=>ab-ar) b))).1,aU (Sl.e (aZ ((fun (ac:Nat)=>ac-ar) b))).2,aU (Sl.e (aZ ((fun (ad:Nat)=>ad-ar) b))).3,aU (Sl.e (aZ ((fun (ae:Nat)=>ae-ar) b))).4,aw (Sl.e (aZ ((fun (af:Nat)=>af-ar) b))).5,aw (Sl.e (aZ ((fun (ag:Nat)=>ag-ar) b))).6]]),some bx]=bv Z∧bG Z∧Int.toNat (kS g Z)<a2)∧(abE (En.mk (Sl.e (aZ ((fun (ah:Nat)=>ah-ar) b))).1 (Sl.e (aZ ((fun (ai:Nat)=>ai-ar) b))).2 (Sl.e (aZ ((fun (aj:Nat)=>aj-ar) b))).3 (Sl.e (aZ ((fun (ak:Nat)=>ak-ar) b))).4 (Sl.e (aZ ((fun (al:Nat)=>al-ar) b))).5 (Sl.e (aZ ((fun (am:Nat)=>am-ar) b))).6) bt=false→ba (a1-aM+s)∧∃(an:Nat),aI [some aA,some aV,some (bb [aw (a1-aM+s)]),some bh,some aK,some aF,some br,some a9]=aN ([some aA,some bk,some (aQ [aw ((↑an:Int)-aM)]),some bh,some aK,some aF,some br]++[some a9])∧(an≤a2∧awS l aq a an=bi)∧an<b)))∧(bs=false→es=[]))∧(bE=false→es=[]))∧(bn.1=false→ba ((↑(a3):Int)-aM)∧(St.mk [AV.vsl bH ax (a3),ay,aw bg,aw ((↑(a3):Int)-aM),ay,ay,ay,ay,ay,ay,ay,ay,ay,ay,ay,ay,ay,ay,ay,ay,ay,ay,ay,ay,ay,ay,ay,ay] [some aA,some br]=xw F l az ax∧Nat.le (bI*ax) (aJ+ar))∧∀(ao:Nat),let bK:=F (rvS az (ao+ar));let bF:=F (rvT az ao);let bl:=at' az (aJ-ar-ao);let a8:=aL (F (rvS az ao));let a0:=Sl.e (Wr.s (at' az ao));let aS:=Sl.e (Wr.s bl);let aP:=(↑ao:Int);let bz:=Decidable.decide (aP<aW-aM-aP);let bw:=ax+Int.toNat aP;let bq:=bg≤aW-aM-aP∧aW-aM-aP<aW;let bc:=ax+Int.toNat (aW-aM-aP);let aC:=bp [aw (at' az ao).1,bj (Wr.s (at' az ao)).1,aU a0.1,aU a0.2,aU a0.3,aU a0.4,aw a0.5,aw a0.6];let av:=bp [aw bl.1,bj (Wr.s bl).1,aU aS.1,aU aS.2,aU aS.3,aU aS.4,aw aS.5,aw aS.6];Nat.le (bI*ao) (aJ+ar)→(bz=true→bq∧Blk.read Proofs.Tryz.prog a8 (48:Nat) bc ax=some av∧(bg≤aP∧aP<aW)∧Blk.read Proofs.Tryz.prog a8 (48:Nat) bw ax=some aC∧(bg≤aP∧aP<aW)∧Blk.fits a8 bw ax av=true∧Blk.writes a8 bw ax av bF∧bq∧Blk.fits (be bF) bc ax aC=true∧Blk.writes (be bF) bc ax aC bK∧ba (aP+aM)∧ba (aW-aM-aP-aM)∧∃(ap:Nat),St.mk [AV.vsl bH ax (aJ),ay,aw (aP+aM),aw (aW-aM-aP-aM),ay,ay,ay,ay,ay,ay,ay,ay,ay,ay,ay,ay,ay,ay,ay,ay,ay,ay,ay,ay,ay,ay,ay,ay] [some aA,some (be bK)]=xw F l az ap∧Nat.le (bI*ap) (aJ+ar)∧aJ-ap<aJ-ao)∧(bz=false→ax<a3∧a3=List.length es∧some a8=some (aL es))))):=by kernel_rfl

theorem CR(l:List Sl)(v w m n:BitVec 64)(k j g:Int)(hl:l.length≤1000000)(hg0:0≤g)(hg1:g≤l.length):∃hs,run jF Tryz.prog 102 [.vsl 0 0 (l.map slE).length, .agg [.w64 v, .w64 w, .w64 m, .w64 n, .int .i64 k, .int .i64 j], .int .i64 g, .int .i64 (-1), .func (.func 104) [] []] [some ⟨false,46,7,true,l.map slE⟩] hs (mt 48 8 ((awS l ⟨v,w,m,n,k,j⟩ [] g.toNat).map wrE)):=by
 refine⟨awH (List.map wrE) l ⟨v,w,m,n,k,j⟩ g (-1), ?_⟩
 rw[CQ];(conv=>zeta)
 generalize hx:(⟨v,w,m,n,k,j⟩:En)=x
 have hlm:(l.map slE).length=l.length:=List.length_map _
 have lW:∀L:List Wr,(List.map wrE L).length=L.length:=fun L=>List.length_map _
 refine⟨⟨by rw[zT];unfold F9;rw[←hx];rfl,hg0,hg1,by show (0:Int)+g≤l.length;omega,rfl⟩, ?_⟩
 rintro r ⟨h0,h1,hr,hI⟩
 refine⟨fun ho=> ?_,fun ho=> ?_⟩
 ·have ho:(mvC l x r).ok=true:=ho
  rw[if_pos ho] at hI
  have ek:(((kS g r).toNat:Nat):Int)=kS g r:=by omega
  refine⟨inR (by omega) (by omega),⟨by rw[ek];rfl,Nat.le_refl _,hI⟩, ?_⟩
  rintro i ⟨hi0,hJ⟩
  have zero:i=0→([]:List Wr)=awS l x [] g.toNat:=fun e=>by
   subst e
   rw[O0] at hJ
   exact hJ
  refine⟨fun hge=>⟨fun hlt=> ?_,fun h=>absurd (of_decide_eq_false h) (by have:=of_decide_eq_true hge;omega)⟩,fun h=> ?_⟩
  ·obtain⟨q,rfl⟩:∃q,i=q+1:=⟨i-1,by have:=of_decide_eq_true hge;omega⟩
   have hq:q<l.length:=by omega
   have eq:((q+1:Nat):Int)-1=q:=by omega
   have ep:q+1-1=q:=rfl
   simp only[eq,ep]
   have B:0≤(q:Int)∧(q:Int)< ((l.map slE).length:Int):=by omega
   have nx:(if (mvC l x (q::r)).ok then awS l x (q::r) (kS g (q::r)).toNat else (wsC l x (q::r)).reverse)=awS l x [] g.toNat→((((r.length+1)*64≤140737488355328∧r.length+1≤9223372036854775807∧0+1≤[wrE ⟨q,mvC l x r⟩].length∧r.length≤(List.map wrE (wsC l x r)).length)∧List.take r.length (List.map wrE (wsC l x r))++[wrE ⟨q,mvC l x r⟩]=List.map wrE (wsC l x (q::r)))∧awI l x g (q::r)∧(kS g (q::r)).toNat< (kS g r).toNat):=fun hn=>by
    refine⟨⟨⟨by omega,by omega,Nat.le_refl _,by rw[lW,jV];exact Nat.le_refl _⟩, ?_⟩,⟨by show (0:Int)≤(q:Int);omega,by show (q:Int)≤l.length;omega,by show ((r.length+1:Nat):Int)+(q:Int)≤l.length;omega,hn⟩,by show ((q:Nat):Int).toNat<_;omega⟩
    rw[List.take_of_length_le (by rw[lW,jV];exact Nat.le_refl _),wsC,List.map_append];rfl
   refine⟨B,eL B.1 B.2 (by rw[Int.toNat_natCast];exact zR _),fun hn=> ?_,fun hy=>⟨B,eL B.1 B.2 (by rw[Int.toNat_natCast];exact xr _),fun ha=> ?_,fun ha=> ?_⟩⟩
   ·have hn:(at' l q).ok=false:=by have:(!(at' l q).ok)=true:=hn;simpa using this
    obtain⟨⟨d1,d2⟩,d3,d4⟩:=nx (by rw[if_neg (show¬(mvC l x (q::r)).ok=true by show¬(at' l q).ok=true;rw[hn];simp),←Mv hn];exact hJ)
    exact⟨d1,d2,B,eL B.1 B.2 (by rw[Int.toNat_natCast];exact fX _),q::r,by rw[←hx];rfl,d3,d4⟩
   ·have hy:(at' l q).ok=true:=by have:(!(at' l q).ok)=false:=hy;simpa using this
    obtain⟨⟨d1,d2⟩,d3,d4⟩:=nx (by rw[if_pos (show (mvC l x (q::r)).ok=true from hy),show (kS g (q::r)).toNat=q by show ((q:Nat):Int).toNat=q;omega,←Mu hy ha];exact hJ)
    exact⟨d1,d2,B,eL B.1 B.2 (by rw[Int.toNat_natCast];exact fX _),q::r,by rw[←hx];rfl,d3,d4⟩
   ·have hy:(at' l q).ok=true:=by have:(!(at' l q).ok)=false:=hy;simpa using this
    exact⟨inR (by omega) (by omega),q,rfl,⟨by omega,by rw[←FZ hy ha];exact hJ⟩,Nat.lt_succ_self q⟩
  ·have hi:i=0:=by have:=of_decide_eq_false h;omega
   rw[←zero hi];rfl
 ·have ho:(mvC l x r).ok≠true:=by have:(mvC l x r).ok=false:=ho;rw[this];simp
  rw[if_neg ho] at hI
  have hW:(wsC l x r).length=r.length:=jV l x r
  refine⟨inR (by omega) (by omega),⟨by unfold xw;rw[zZ,hW,Int.natCast_zero,Int.sub_zero];rfl,by show 2*0≤_;omega⟩, ?_⟩
  intro i (hi0:2*i≤(wsC l x r).length+1)
  rw[hW] at hi0
  refine⟨fun hlt=> ?_,fun hge=> ?_⟩
  ·have hi:2*i+1< (wsC l x r).length:=by have:=of_decide_eq_true hlt;omega
   have ej:(((wsC l x r).length:Int)-1-i).toNat=(wsC l x r).length-1-i:=by omega
   have Bj:0≤((wsC l x r).length:Int)-1-i∧((wsC l x r).length:Int)-1-i< ((wsC l x r).length:Int):=by omega
   have Bi:0≤(i:Int)∧(i:Int)< ((wsC l x r).length:Int):=by omega
   have pI:=wY (L:=rvS (wsC l x r) i) (q:=i) (z:=(i:Int)) (Int.toNat_natCast i) (by rw[gJ];omega) (at' (wsC l x r) ((wsC l x r).length-1-i))
   have pJ:=wY (L:=rvT (wsC l x r) i) (z:=((wsC l x r).length:Int)-1-i) ej (by rw[xu];omega) (at' (wsC l x r) i)
   rw[z6 hi] at pJ
   have rJ:at' (rvS (wsC l x r) i) ((wsC l x r).length-1-i)=at' (wsC l x r) ((wsC l x r).length-1-i):=xx (by omega) (by omega) (by omega)
   have rI:at' (rvS (wsC l x r) i) i=at' (wsC l x r) i:=xx (by omega) (by omega) (by omega)
   refine⟨Bj,eL Bj.1 (by rw[lW,gJ];exact Bj.2) (by rw[ej,rJ];exact kL _),Bi,eL Bi.1 (by rw[lW,gJ];exact Bi.2) (by rw[Int.toNat_natCast,rI];exact kL _),Bi,pI.1,pI.2,Bj,pJ.1,pJ.2,inR (by omega) (by omega),inR (by omega) (by omega),i+1, ?_, ?_, ?_⟩
   ·unfold xw
    rw[show ((wsC l x r).length:Int)-1-((i+1:Nat):Int)=((wsC l x r).length:Int)-1-i-1 from by omega]
    rfl
   ·show 2*(i+1)≤(wsC l x r).length+1
    omega
   ·show (wsC l x r).length-(i+1)<_
    omega
  ·have hi:(wsC l x r).length≤2*i+1:=by have:=of_decide_eq_false hge;omega
   rw[z7 hi,hI]
   have hne:r≠[]:=by rintro rfl;exact ho rfl
   exact⟨List.length_pos_iff.2 hne,by rw[lW,←hI,List.length_reverse,hW],rfl⟩

set_option maxRecDepth 1000000 in
theorem G2:eJ Tryz.prog 102 (ey [pSl,none,none,none,none] yi):=by
 refine rg (eS (l:=jF) AY mixed noNG) fun l R hF=> ?_
 unfold yi at hF
 split at hF
 ·rename_i r_l v w m n k j g s
  obtain⟨hr_l,hl,⟨hs,hg0,hg1⟩,hN,hR⟩:=hF
  generalize deS r_l=l at hr_l hl hg0 hg1 hN hR
  subst hr_l hs
  obtain⟨hs,hrun⟩:=CT l v w m n k j g hl hg0 hg1
  by_cases e:bwS l ⟨v,w,m,n,k,j⟩ [] (g+1).toNat=[]
  ·exact⟨_,hN e,rfl,hs,_,hrun,fun _ _ _ hy=>r8 (by rw[e] at hy;exact hy)⟩
  ·exact⟨_,hR e,trivial,hs,_,hrun,fun _ _ _ hy=>r7 (by simpa using e) hy⟩
 ·rename_i r_l v w m n k j g s
  obtain⟨hr_l,hl,⟨hs,hg0,hg1⟩,hN,hR⟩:=hF
  generalize deS r_l=l at hr_l hl hg0 hg1 hN hR
  subst hr_l hs
  obtain⟨hs,hrun⟩:=CR l v w m n k j g hl hg0 hg1
  by_cases e:awS l ⟨v,w,m,n,k,j⟩ [] g.toNat=[]
  ·exact⟨_,hN e,rfl,hs,_,hrun,fun _ _ _ hy=>r8 (by rw[e] at hy;exact hy)⟩
  ·exact⟨_,hR e,trivial,hs,_,hrun,fun _ _ _ hy=>r7 (by simpa using e) hy⟩
 ·exact hF.elim

noncomputable def iW:List (FuncId×Sx.Spec):=[(64,ey [none] nW),
 (101,ey [pSl,none] yC),
 (60,ey [pSl] pL),
 (102,ey [pSl,none,none,none,none] yi)]

theorem vm(l:List Sl)(v w m n:BitVec 64)(k j:Int):run iW Tryz.prog 61 [.vsl 0 0 (l.map slE).length, .agg [.w64 v, .w64 w, .w64 m, .w64 n, .int .i64 k, .int .i64 j]] [some ⟨false,(pSl.getD (0,0)).1,(pSl.getD (0,0)).2,true,(l.map slE)⟩] [.fork [] [.fork [] [.fork [] [.nw, .fork [.fork [] [.fork [] [.fork [.fork [] []] []]]] [.fork [] [.fork [.fork [] []] []]]]]]] (eM (.many [.vrow 48 8 ((wC l ⟨v,w,m,n,k,j⟩).map wrE), .v (.int .i64 (eC l ⟨v,w,m,n,k,j⟩))]))=
  (let S:=false=false;let I:=(1:Int);let H:=true=true;let G:=false=true;let D:=(0:Nat);let B:=List.map wrE;let z:=Blk.mk true (48:TypeId) (8:Nat) true;let q:=AV.int IntKind.i64;let i:=List.length (List.map slE l);let P:=D+i≤i;let J:=List.take (i) (List.drop D (List.map slE l));let b:=En.mk v w m n k j;let N:=B (wC l b);let M:=q (eC l b);let F:=q (3:Int)=M;let h:=N=[];let e:=q (0:Int)=M;let x:=true=false→(H→h∧e∧True)∧(true=false→((!true)=true→h∧e∧True)∧((!true)=false→h∧e∧True));let a:=deS (J);let Q:=(↑(List.length a):Int);let E:=(↑(gtC a b):Int);let C:=(↑(gfC a b):Int);let R:=Decidable.decide (E<C);let A:=(-1:Int)=(-1:Int)∧(0:Int)≤E∧E≤Q;let y:=List.length a≤(1000000:Nat);let u:=bwS a b [] (Int.toNat (C-I+I));let r:=awS a b [] (Int.toNat E);let o:=J=List.map slE a;let g:=(↑(List.length (B (r))):Int);let O:=Decidable.decide (g< (↑D:Int));let f:=List.length (B (u));let L:=Decidable.decide (g< (↑(f):Int));let K:=Decidable.decide ((↑D:Int)< (↑(f):Int));let d:=List.length (B (r))=List.length (N)∧some (z (B (r)))=some (z (N));let t:=true=false→((!false)=true→(O=true→d∧e∧True)∧(O=false→h∧e∧True))∧((!false)=false→h∧e∧True);let c:=f=List.length (N)∧some (z (B (u)))=some (z (N));let s:=false=false→((!true)=true→(K=true→h∧e∧True)∧(K=false→c∧e∧True))∧((!true)=false→c∧e∧True);let p:=false=false→(G→d∧e∧True)∧(S→((!false)=true→(L=true→d∧e∧True)∧(L=false→c∧e∧True))∧((!false)=false→c∧e∧True));(((!rtE b)=true→h∧q I=M∧True)∧((!rtE b)=false→P∧o∧y∧(R=true→h∧q (7:Int)=M∧True)∧(R=false→P∧o∧y∧((!orE (ensS a))=true→h∧q (7:Int)=M∧True)∧((!orE (ensS a))=false→inRange IntKind.i64 (C-I)∧P∧o∧y∧(I=I∧(-1:Int)≤C-I∧C-I<Q)∧(u=[]→P∧o∧y∧A∧(r=[]→(H→(H→h∧F∧True)∧x)∧x)∧(r≠[]→(H→(G→h∧F∧True)∧(S→(H→d∧e∧True)∧t))∧(true=false→(H→d∧e∧True)∧t)))∧(u≠[]→P∧o∧y∧A∧(r=[]→(G→(H→h∧F∧True)∧(true=false→(G→h∧e∧True)∧s))∧(S→(G→h∧e∧True)∧s))∧(r≠[]→(G→(G→h∧F∧True)∧p)∧p))))))):=by kernel_rfl

theorem tO:∀e∈iW,eJ Tryz.prog e.1 e.2:=by
 intro e he
 simp only[iW,List.mem_cons,List.not_mem_nil,or_false] at he
 rcases he with rfl|rfl|rfl|rfl
 ·exact nV
 ·exact Hb
 ·exact tM
 ·exact G2

theorem yA:eJ Tryz.prog 61 (ey [pSl,none] oM):=by
 refine eK (eS (l:=iW) tO mixed noNG) fun l R hF=> ?_
 unfold oM at hF
 split at hF
 ·rename_i r_l v w m n k j
  obtain⟨hr_l,hl,hF⟩:=hF
  generalize deS r_l=l at hr_l hl hF
  subst hr_l
  refine⟨_,hF,rfl,[.fork [] [.fork [] [.fork [] [.nw, .fork [.fork [] [.fork [] [.fork [.fork [] []] []]]] [.fork [] [.fork [.fork [] []] []]]]]]], ?_⟩
  show run iW Tryz.prog _ [.vsl 0 0 (l.map slE).length, .agg [.w64 v, .w64 w, .w64 m, .w64 n, .int .i64 k, .int .i64 j]] [some ⟨false,(pSl.getD (0,0)).1,(pSl.getD (0,0)).2,true,(l.map slE)⟩] _ _
  rw[vm];(conv=>zeta)
  generalize hx:(⟨v,w,m,n,k,j⟩:En)=x
  have hlm:(l.map slE).length=l.length:=List.length_map _
  have lW:∀L:List Wr,(List.map wrE L).length=L.length:=fun L=>List.length_map _
  have hf:=(iq l x).1
  have ht:=(iU l x).1
  have e1:((gfC l x:Int)-1+1).toNat=gfC l x:=by omega
  have eB:bwS l x [] (gfC l x)=blP l x:=rfl
  have eA:awS l x [] (gtC l x)=avP l x:=rfl
  simp only[eT,fG,zLe,true_and,and_true,eq_self,hl,lW,e1,Int.toNat_natCast,eB,eA,true_implies,false_implies,Bool.not_true,Bool.not_false,reduceCtorEq]
  refine⟨fun hr=> ?_,fun hr=>⟨fun hg=> ?_,fun hg=>⟨fun ho=> ?_,fun ho=> ?_⟩⟩⟩
  ·have hr:=kg hr
   unfold wC eC
   rw[hr];exact⟨rfl,rfl⟩
  ·have hr:=iR hr
   have hg:=of_decide_eq_true hg
   unfold wC eC okC
   rw[hr,decide_eq_false (by omega),Bool.and_false];exact⟨rfl,rfl⟩
  ·have hr:=iR hr
   have ho:=kg ho
   unfold wC eC okC
   rw[hr,ho];exact⟨rfl,rfl⟩
  have hr:=iR hr
  have ho:=iR ho
  have hg:gfC l x≤gtC l x:=by have:=of_decide_eq_false hg;omega
  have hk:okC l x=true:=by unfold okC;rw[ho,decide_eq_true hg];rfl
  have eW:wC l x=oC l x:=by unfold wC;rw[hr,hk];rfl
  have eO:=Ls hg
  have fin:∀W:List Wr,oC l x=W→W≠[]→(W.length=(wC l x).length∧some (Blk.mk true 48 8 true (List.map wrE W))=some (Blk.mk true 48 8 true (List.map wrE (wC l x))))∧AV.int IntKind.i64 0=AV.int IntKind.i64 (eC l x):=by
   rintro W rfl hn
   have e0:eC l x=0:=by unfold eC;rw[hr,hk,if_neg (fun h=>hn (List.length_eq_zero_iff.1 h))];rfl
   rw[eW,e0]
   exact⟨⟨rfl,rfl⟩,rfl⟩
  have nz:∀W:List Wr,W≠[]→0<W.length:=fun W h=>List.length_pos_iff.2 h
  refine⟨inR (by omega) (by omega),⟨by omega,by omega⟩,fun hB=>⟨⟨by omega,by omega⟩,fun hA=> ?_,fun hA=> ?_⟩,fun hB=>⟨⟨by omega,by omega⟩,fun hA=> ?_,fun hA=>⟨fun h=> ?_,fun h=> ?_⟩⟩⟩
  ·rw[hB,if_pos (.inl rfl),hA] at eO
   have e3:eC l x=3:=by unfold eC;rw[hr,hk,eO];rfl
   rw[e3,eW,eO]
   exact⟨rfl,rfl⟩
  ·rw[hB,if_pos (.inl rfl)] at eO
   exact fin _ eO hA
  ·rw[hA,if_neg (fun h=>h.elim (fun h=>hB (List.length_eq_zero_iff.1 h)) fun h=>absurd h.1 (Nat.lt_irrefl _))] at eO
   exact fin _ eO hB
  ·rw[if_pos (.inr ⟨nz _ hA,by have:=of_decide_eq_true h;omega⟩)] at eO
   exact fin _ eO hA
  ·rw[if_neg (fun g=>g.elim (fun g=>hB (List.length_eq_zero_iff.1 g)) fun g=>by have:=of_decide_eq_false h;omega)] at eO
   exact fin _ eO hB
 ·exact hF.elim

end Go.Proofs.YtcabofadpheomaaGreat.L1
end

