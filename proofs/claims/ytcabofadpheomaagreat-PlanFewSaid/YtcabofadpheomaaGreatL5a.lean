/-
 Texts in one: L5T L5A L5B L5C L5D L5P.
-/
import Derived.Test.YtcabofadpheomaaGreatLa
import Derived.Test.YtcabofadpheomaaGreatL4a
import Derived.Test.YtcabofadpheomaaGreatL1a
import Derived.Test.YtcabofadpheomaaGreatMa

section
namespace Go.Proofs.YtcabofadpheomaaGreat.L1
open Go.Sx Go.Sx.M

def enE(x:En):AV:= .agg [.w64 x.v, .w64 x.w, .w64 x.m, .w64 x.n, .int .i64 x.len, .int .i64 x.act]

def RL(x:AV):En:=⟨cW (x.cells.getD 0 .any),cW (x.cells.getD 1 .any),cW (x.cells.getD 2 .any),cW (x.cells.getD 3 .any),cI (x.cells.getD 4 .any),cI (x.cells.getD 5 .any)⟩

def deE(l:List AV):List En:=l.map RL

theorem gg(l:List En):deE (l.map enE)=l:=by
 unfold deE
 rw[List.map_map]
 exact List.map_id l

def vU:Par:=some (61,6)

theorem PF(x:En):e7 Tryz.prog 59 (enE x).cells 0=some (.agg [.w64 x.v, .w64 x.w, .w64 x.m, .w64 x.n]):=by kernel_rfl
theorem jl(x:En):e7 Tryz.prog 61 (enE x).cells 0=some (enE x):=by kernel_rfl
theorem Qv(x:En):e7 Tryz.prog 3 (enE x).cells 4=some (.int .i64 x.len):=by kernel_rfl
theorem Qw(x:En):e7 Tryz.prog 3 (enE x).cells 5=some (.int .i64 x.act):=by kernel_rfl

end Go.Proofs.YtcabofadpheomaaGreat.L1
end

section
namespace Go.Proofs.YtcabofadpheomaaGreat.L1
open Go.Sx Go.Sx.M

def pp:List Arg→(Res→Prop)→Prop
 | [.v (.agg [.w64 v, .w64 w, .w64 m, .w64 n, .int .i64 k, .int .i64 j]), .v (.agg [.w64 c, .w64 d, .w64 p, .w64 q, .int .i64 s, .int .i64 t])],R=>R (.v (.bool (abE ⟨v,w,m,n,k,j⟩ ⟨c,d,p,q,s,t⟩)))
 |_,_=>False

end Go.Proofs.YtcabofadpheomaaGreat.L1
end

section
namespace Go.Proofs.YtcabofadpheomaaGreat.L1
open Go.Sx Go.Sx.M

def N4(F:List En→List AV)(l:List En)(p:Nat):St:=
 ⟨[.any, .any, .any, .vsl 1 0 p, .any, .any, .vsl 0 0 (l.map enE).length, .int .i64 (l.map enE).length, .int .i64 p, .any, .any, .any, .any, .any, .any, .any, .any, .any, .any],[some ⟨false,44,6,true,l.map enE⟩,some ⟨true,61,6,true,F (l.take p)⟩]⟩
def Rc:Modes:=⟨[0,0,0,1,0,0,1,1,2,0,0,0,0,0,0,0,0,0,0],[],[],[],[(3,61,6)]⟩
def ofM:Modes:=⟨[0,0,0,1,0,0,1,1,1,0,0,0,0,0,0,0,0,0,0],[],[],[],[]⟩
def ofH(F:List En→List AV)(l:List En):List Hint:=[.linv _ 0 (N4 F l) (fun p=>p≤l.length) (fun p=>l.length+1-p) Rc ofM ofM (fun _=>[]) fun p=>
 [.fork [.dy, .cell (enE (at' l p)), .rows (F (l.take (p+1))), .nw] []]]

def QO:List Arg→(Res→Prop)→Prop
 | [.row r_l, .v (.agg [.w64 a, .w64 b])],R=>r_l=(deE r_l).map enE∧(deE r_l).length≤9223372036854775807∧R (.v (.int .i64 (tlI (deE r_l) a b)))
 |_,_=>False

def ql:List Arg→(Res→Prop)→Prop
 | [.row r_l],R=>r_l=(deE r_l).map enE∧(deE r_l).length≤9223372036854775807∧R (.v (.bool (orE (deE r_l))))
 |_,_=>False

def jm:List Arg→(Res→Prop)→Prop
 | [.v (.agg [.w64 v, .w64 w, .w64 m, .w64 n, .int .i64 k, .int .i64 j]), .v (.agg [.w64 c, .w64 d, .w64 p, .w64 q, .int .i64 s, .int .i64 t])],R=>R (.v (.int .i64 (cpE ⟨v,w,m,n,k,j⟩ ⟨c,d,p,q,s,t⟩)))
 |_,_=>False

noncomputable def jC:List (FuncId×Sx.Spec):=[(87,ey [none,none] B9)]

theorem xI(v w m n:BitVec 64)(k j:Int)(c d p q:BitVec 64)(s t:Int)(r:AV):run jC Tryz.prog 46 [.agg [.w64 v, .w64 w, .w64 m, .w64 n, .int .i64 k, .int .i64 j], .agg [.w64 c, .w64 d, .w64 p, .w64 q, .int .i64 s, .int .i64 t]] [] [.fork [.fork [] []] [.fork [.fork [.fork [] [.br true, .fork [] []]] [.br false]] [.br false, .br false]]] (eM (.v r))=
  (let i:=Decidable.decide (j>t);let h:=Decidable.decide (j<t);let g:=Decidable.decide (k>s);let f:=cmpV (V m n) (V p q);let e:=AV.int IntKind.i64;let b:=f==(0:Int);let a:=cmpV (V v w) (V c d)==(0:Int);(((k !=s)=true→(g=true→e (-1:Int)=r)∧(g=false→e (1:Int)=r))∧((k !=s)=false→(a=true→(b=true→(h=true→e (-1:Int)=r)∧(h=false→b=true∧(i=true→e (1:Int)=r)∧(i=false→e (f)=r)))∧(b=false→b=false∧e (f)=r))∧(a=false→a=false∧a=false∧e (cmpV (V v w) (V c d))=r)))):=by kernel_rfl

theorem u6:∀e∈jC,eJ Tryz.prog e.1 e.2:=by
 intro e he
 simp only[jC,List.mem_cons,List.not_mem_nil,or_false] at he
 rcases he with rfl
 ·exact Kl

theorem Ae:eJ Tryz.prog 46 (ey [none,none] jm):=by
 refine eK (eS (l:=jC) u6 mixed noNG) fun l R hF=> ?_
 unfold jm at hF
 split at hF
 ·rename_i v w m n k j c d p q s t
  refine⟨_,hF,rfl,[.fork [.fork [] []] [.fork [.fork [.fork [] [.br true, .fork [] []]] [.br false]] [.br false, .br false]]], ?_⟩
  show run jC Tryz.prog _ [.agg [.w64 v, .w64 w, .w64 m, .w64 n, .int .i64 k, .int .i64 j], .agg [.w64 c, .w64 d, .w64 p, .w64 q, .int .i64 s, .int .i64 t]] [] _ _
  rw[xI];(conv=>zeta)
  have key:∀x:Int,cpE ⟨v,w,m,n,k,j⟩ ⟨c,d,p,q,s,t⟩=x→AV.int .i64 x= .int .i64 (cpE ⟨v,w,m,n,k,j⟩ ⟨c,d,p,q,s,t⟩):=fun x h=>by rw[h]
  have e0:cpE ⟨v,w,m,n,k,j⟩ ⟨c,d,p,q,s,t⟩=orZ (jS s k) (orZ (cmpV (V v w) (V c d)) (orZ (cmpV (V m n) (V p q)) (jS j t))):=rfl
  refine⟨fun h=>⟨fun h1=>key _ ?_,fun h1=>key _ ?_⟩,fun h=>⟨fun h1=>⟨fun h2=>⟨fun h3=>key _ ?_,fun h3=>⟨h2,fun h4=>key _ ?_,fun h4=>key _ ?_⟩⟩,fun h2=>⟨h2,key _ ?_⟩⟩,fun h1=>⟨h1,h1,key _ ?_⟩⟩⟩
  all_goals
   rw[e0]
   simp only[bne_iff_ne,ne_eq,bne_eq_false_iff_eq,beq_iff_eq,beq_eq_false_iff_ne,decide_eq_true_eq,decide_eq_false_iff_not] at*
   unfold orZ jS
  ·rw[if_neg (by rw[if_pos (by omega)];omega),if_pos (by omega)]
  ·rw[if_neg (by rw[if_neg (by omega),if_pos (by omega)];omega),if_neg (by omega),if_pos (by omega)]
  ·rw[if_pos (by rw[if_neg (by omega),if_neg (by omega)]),if_pos h1,if_pos h2,if_pos h3]
  ·rw[if_pos (by rw[if_neg (by omega),if_neg (by omega)]),if_pos h1,if_pos h2,if_neg h3,if_pos (by omega)]
  ·rw[if_pos (by rw[if_neg (by omega),if_neg (by omega)]),if_pos h1,if_pos h2,if_neg h3,if_neg (by omega),h2]
  ·rw[if_pos (by rw[if_neg (by omega),if_neg (by omega)]),if_pos h1,if_neg h2]
  ·rw[if_pos (by rw[if_neg (by omega),if_neg (by omega)]),if_neg h1]
 ·exact hF.elim

def IL:List Arg→(Res→Prop)→Prop
 | [.v (.agg [.w64 v, .w64 w, .w64 m, .w64 n, .int .i64 k, .int .i64 j])],R=>R (.v (.agg [.w64 v, .w64 w, .w64 m, .w64 n, .int .i64 k, .int .i64 j]))
 |_,_=>False

theorem IK(v w m n:BitVec 64)(k j:Int)(r:AV):run [] Tryz.prog 48 [.agg [.w64 v, .w64 w, .w64 m, .w64 n, .int .i64 k, .int .i64 j]] [] [] (eM (.v r))=
  (AV.agg [AV.w64 v,AV.w64 w,AV.w64 m,AV.w64 n,AV.int IntKind.i64 k,AV.int IntKind.i64 j]=r):=by kernel_rfl

theorem Lm:eJ Tryz.prog 48 (ey [none] IL):=by
 refine eK fq fun l R hF=> ?_
 unfold IL at hF
 split at hF
 ·rename_i v w m n k j
  refine⟨_,hF,rfl,[], ?_⟩
  show run [] Tryz.prog _ [.agg [.w64 v, .w64 w, .w64 m, .w64 n, .int .i64 k, .int .i64 j]] [] _ _
  rw[IK]
  all_goals rfl
 ·exact hF.elim

theorem fK(x:En):e7 Tryz.prog 44 (enE x).cells 0=some (enE x):=by kernel_rfl

def pEn:Par:=some (44,6)

def Oa:List Arg→(Res→Prop)→Prop
 | [.row r_l],R=>r_l=(deE r_l).map enE∧(deE r_l).length≤1000000∧R (.vrow 61 6 ((deE r_l).map enE))
 |_,_=>False

theorem Lr(l:List En)(F:List En→List AV)(es:List AV):run [] Tryz.prog 20 [.vsl 0 0 (l.map enE).length] [some ⟨false,(pEn.getD (0,0)).1,(pEn.getD (0,0)).2,true,(l.map enE)⟩] (ofH F l) (eM (.vrow 61 6 es))=
  (let m:=List.length l;let j:=(1:Nat);let i:=Blk.mk true (61:TypeId) (6:Nat) true;let h:=AV.int IntKind.i64;let g:=(0:Nat);let f:=AV.any;let e:=List.length (List.map enE l);let q:=(↑e:Int);let d:=Blk.mk false (44:TypeId) (6:Nat) true (List.map enE l);((St.mk [f,f,f,AV.vsl (List.length [some d]) g g,f,f,AV.vsl g g e,h q,h (0:Int),f,f,f,f,f,f,f,f,f,f] ([some d]++[some (i [])])=N4 F l g∧Nat.le g (m))∧∀(a:Nat),let s:=F (List.take (a+j) l);let o:=F (List.take a l);let n:=at' l a;let k:=(↑a:Int);let r:=Decidable.decide (k<q);let c:=AV.agg [AV.w64 n.1,AV.w64 n.2,AV.w64 n.3,AV.w64 n.4,h n.5,h n.6];Nat.le a (m)→(r=true→((0:Int)≤k∧k<q)∧Blk.read Proofs.Tryz.prog d (44:Nat) (g+Int.toNat k) g=some (c)∧((a+j)*(48:Nat)≤(140737488355328:Nat)∧a+j≤(9223372036854775807:Nat)∧g+j≤List.length [c]∧a≤List.length o)∧List.take a o++[c]=s∧inRange IntKind.i64 (k+(1:Int))∧∃(b:Nat),St.mk [f,f,f,AV.vsl (g+j) g (a+j),f,f,AV.vsl g g e,h q,h (k+(1:Int)),f,f,f,f,f,f,f,f,f,f] [some d,some (Blk.mk true (61:Nat) (6:Nat) true (s))]=N4 F l b∧Nat.le b (m)∧m+j-b<m+j-a)∧(r=false→a=List.length es∧some (i o)=some (i es)))):=by kernel_rfl

theorem N9:eJ Tryz.prog 20 (ey [pEn] Oa):=by
 refine eK fq fun l R hF=> ?_
 unfold Oa at hF
 split at hF
 ·rename_i r_l
  obtain⟨hr_l,hl,hF⟩:=hF
  generalize deE r_l=l at hr_l hl hF
  subst hr_l
  refine⟨_,hF,trivial,(ofH (List.map enE) l), ?_⟩
  show run [] Tryz.prog _ [.vsl 0 0 (l.map enE).length] [some ⟨false,(pEn.getD (0,0)).1,(pEn.getD (0,0)).2,true,(l.map enE)⟩] _ _
  rw[Lr];(conv=>zeta)
  have lt:∀p,p≤l.length→((l.take p).map enE).length=p:=fun p hp=>by rw[List.length_map,List.length_take];omega
  refine⟨⟨rfl,Nat.zero_le _⟩, ?_⟩
  intro p hp
  have hp:p≤l.length:=hp
  refine⟨fun hlt=> ?_,fun hge=> ?_⟩
  ·have hlt:p<l.length:=by simp only[decide_eq_true_eq,List.length_map] at hlt;omega
   have B:0≤(p:Int)∧(p:Int)< ((l.map enE).length:Int):=by rw[List.length_map];omega
   refine⟨B,eL B.1 B.2 (fK _),⟨by omega,by omega,by simp,by rw[lt p hp];omega⟩, ?_,inR (by omega) (by omega),p+1,rfl,(by omega:p+1≤l.length),by omega⟩
   rw[List.take_of_length_le (by rw[lt p hp];omega),List.take_add_one,eZ hlt,List.map_append]
   rfl
  ·have hp:p=l.length:=by simp only[decide_eq_false_iff_not,List.length_map] at hge;omega
   subst hp
   rw[List.take_length,List.length_map]
   exact⟨rfl,rfl⟩
 ·exact hF.elim

end Go.Proofs.YtcabofadpheomaaGreat.L1
end

section
namespace Go.Proofs.YtcabofadpheomaaGreat.L1
open Go.Sx Go.Sx.M

def soL(l:List En)(p:Nat):List En:=srE (l.take p)

def Gp(F:List En→List AV)(l:List En)(p:Nat):St:=
 ⟨[.vsl 0 0 (l.map enE).length, .any, .any, .vsl 1 0 p, .int .i64 p, .any, .any, .any, .any, .any, .any, .any, .any, .any, .any, .any, .any, .any, .any, .any, .any, .any, .any, .any, .any, .any, .any, .any, .any, .any, .any, .any, .any, .any, .any, .any, .any, .any, .any, .any, .any, .any, .any, .any, .any, .any, .any, .any],[some ⟨false,61,6,true,l.map enE⟩,some ⟨true,61,6,true,F (soL l p)⟩]⟩
def H1(F:List En→List AV)(l:List En)(p k:Nat):St:=
 ⟨[.vsl 0 0 (l.map enE).length, .any, .any, .vsl 1 0 p, .int .i64 p, .int .i64 k, .any, .any, .any, .any, .any, .any, .any, .any, .any, .any, .any, .any, .any, .any, .any, .any, .any, .any, .any, .any, .any, .any, .any, .any, .any, .any, .any, .any, .any, .any, .any, .any, .any, .any, .any, .any, .any, .any, .any, .any, .any, .any],[some ⟨false,61,6,true,l.map enE⟩,some ⟨true,61,6,true,F (soL l p)⟩]⟩
def QE:Modes:=⟨[1,0,0,1,2,0,0,0,0,0,0,0,0,0,0,0,0,0,0,0,0,0,0,0,0,0,0,0,0,0,0,0,0,0,0,0,0,0,0,0,0,0,0,0,0,0,0,0],[],[],[],[(3,61,6)]⟩
def soM:Modes:=⟨[1,0,0,1,1,0,0,0,0,0,0,0,0,0,0,0,0,0,0,0,0,0,0,0,0,0,0,0,0,0,0,0,0,0,0,0,0,0,0,0,0,0,0,0,0,0,0,0],[],[],[],[]⟩
def QD:Modes:=⟨[1,0,0,1,1,2,0,0,0,0,0,0,0,0,0,0,0,0,0,0,0,0,0,0,0,0,0,0,0,0,0,0,0,0,0,0,0,0,0,0,0,0,0,0,0,0,0,0],[],[],[],[]⟩
def soN:Modes:=⟨[1,0,0,1,1,1,0,0,0,0,0,0,0,0,0,0,0,0,0,0,0,0,0,0,0,0,0,0,0,0,0,0,0,0,0,0,0,0,0,0,0,0,0,0,0,0,0,0],[],[],[],[]⟩
def K5(l:List En)(p k:Nat):Prop:=k≤p∧∀j,j<k→cpE (at' (soL l p) j) (at' l p)≤0
def soH(F:List En→List AV)(l:List En):List Hint:=[.linv _ 0 (Gp F l) (fun p=>p≤l.length) (fun p=>l.length+1-p) QE soM soM (fun _=>[]) fun p=>
 [.fork [.linv _ 0 (H1 F l p) (K5 l p) (fun k=>l.length+1-k) QD soN soN
   (fun k=>[.dy, .cell (enE (at' l p)), .dy, .rows (F (at' l p::(soL l p).drop k)), .dy, .rows (F ((soL l p).take k)), .rows (F ((soL l p).take k++at' l p::(soL l p).drop k)), .nw])
   fun k=>[.fork [.dy, .cell (enE (at' (soL l p) k)), .dy, .cell (enE (at' l p)), .fork [.nw] []] []]] []]]

def C2:List Arg→(Res→Prop)→Prop
 | [.row r_l],R=>r_l=(deE r_l).map enE∧(deE r_l).length≤1000000∧R (.vrow 61 6 ((srE (deE r_l)).map enE))
 |_,_=>False

noncomputable def pm:List (FuncId×Sx.Spec):=[(46,ey [none,none] jm)]

theorem Gr(l:List En)(F:List En→List AV)(es:List AV):run pm Tryz.prog 17 [.vsl 0 0 (l.map enE).length] [some ⟨false,(vU.getD (0,0)).1,(vU.getD (0,0)).2,true,(l.map enE)⟩] (soH F l) (eM (.vrow 61 6 es))=
  (let T:=AV.w64;let S:=(1:Int);let P:=inRange IntKind.i64;let O:=(0:Int);let M:=(140737488355328:Nat);let J:=(9223372036854775807:Nat);let A:=List.length l;let z:=(1:Nat);let x:=AV.int IntKind.i64;let r:=Blk.mk true (61:TypeId) (6:Nat) true;let o:=List.length (List.map enE l);let k:=Blk.mk false (61:TypeId) (6:Nat) true (List.map enE l);let i:=(0:Nat);let U:=AV.vsl (i+z) i;let R:=AV.vsl i i o;let g:=AV.any;((St.mk [R,g,g,AV.vsl (List.length [some k]) i i,x O,g,g,g,g,g,g,g,g,g,g,g,g,g,g,g,g,g,g,g,g,g,g,g,g,g,g,g,g,g,g,g,g,g,g,g,g,g,g,g,g,g,g,g] ([some k]++[some (r [])])=Gp F l i∧Nat.le i (A))∧∀(a:Nat),let B:=at' l a;let y:=(↑a:Int);let Q:=Decidable.decide (y< (↑o:Int));let H:=O≤y∧y< (↑o:Int);let m:=soL l a;let V:=r (F m);let f:=AV.agg [T (B).1,T (B).2,T (B).3,T (B).4,x (B).5,x (B).6];let w:=Blk.read Proofs.Tryz.prog k (61:Nat) (i+Int.toNat y) i=some (f);Nat.le a (A)→(Q=true→(St.mk [R,g,g,U a,x y,x O,g,g,g,g,g,g,g,g,g,g,g,g,g,g,g,g,g,g,g,g,g,g,g,g,g,g,g,g,g,g,g,g,g,g,g,g,g,g,g,g,g,g] [some k,some V]=H1 F l a i∧K5 l a i)∧∀(b:Nat),let L:=List.drop b m;let K:=List.take b m;let G:=(↑b:Int);let W:=Decidable.decide (G<y);let C:=at' m b;let s:=O≤G∧G< (↑(a+z):Int);let q:=Decidable.decide (cpE (En.mk C.1 C.2 C.3 C.4 C.5 C.6) (En.mk (B).1 (B).2 (B).3 (B).4 (B).5 (B).6)≤O);let h:=Int.toNat G;let N:=h-i;let I:=z+(a-h);let E:=[]++List.take N (List.drop (i+i) (F m))=F (K);let D:=[f]++List.take (a-h) (List.drop (i+h) (F m))=F (B::L);let v:=List.take (i+N) (F (K))++List.take I (List.drop i (F (B::L)))=F (K++B::L);let u:=(i+N)*(48:Nat)≤M∧i+N≤J∧i+i+N≤List.length (F m)∧i≤List.length ([]:List AV);let t:=I*(48:Nat)≤M∧z+(a-h)≤J∧i+h+(a-h)≤List.length (F m)∧z≤List.length [f];let n:=(i+N+I)*(48:Nat)≤M∧i+N+I≤J∧i+I≤List.length (F (B::L))∧i+N≤List.length (F (K));let j:=St.mk [R,g,g,U (i+N+I),x (y+S),g,g,g,g,g,g,g,g,g,g,g,g,g,g,g,g,g,g,g,g,g,g,g,g,g,g,g,g,g,g,g,g,g,g,g,g,g,g,g,g,g,g,g] [some k,some (Blk.mk true (61:Nat) (6:Nat) true (F (K++B::L)))];K5 l a b→(W=true→(O≤G∧G<y)∧Blk.read Proofs.Tryz.prog V (61:Nat) (i+h) i=some (AV.agg [T C.1,T C.2,T C.3,T C.4,x C.5,x C.6])∧H∧w∧(q=true→P (G+S)∧∃(c:Nat),St.mk [R,g,g,U a,x y,x (G+S),g,g,g,g,g,g,g,g,g,g,g,g,g,g,g,g,g,g,g,g,g,g,g,g,g,g,g,g,g,g,g,g,g,g,g,g,g,g,g,g,g,g] [some k,some V]=H1 F l a c∧K5 l a c∧A+z-c<A+z-b)∧(q=false→H∧w∧s∧t∧D∧s∧u∧E∧n∧v∧P (y+S)∧∃(d:Nat),j=Gp F l d∧Nat.le d (A)∧A+z-d<A+z-a))∧(W=false→H∧w∧s∧t∧D∧s∧u∧E∧n∧v∧P (y+S)∧∃(e:Nat),j=Gp F l e∧Nat.le e (A)∧A+z-e<A+z-a))∧(Q=false→a=List.length es∧some V=some (r es)))):=by kernel_rfl

theorem C3:∀e∈pm,eJ Tryz.prog e.1 e.2:=by
 intro e he
 simp only[pm,List.mem_cons,List.not_mem_nil,or_false] at he
 rcases he with rfl
 ·exact Ae

theorem H8:eJ Tryz.prog 17 (ey [vU] C2):=by
 refine eK (eS (l:=pm) C3 mixed noNG) fun l R hF=> ?_
 unfold C2 at hF
 split at hF
 ·rename_i r_l
  obtain⟨hr_l,hl,hF⟩:=hF
  generalize deE r_l=l at hr_l hl hF
  subst hr_l
  refine⟨_,hF,trivial,(soH (List.map enE) l), ?_⟩
  show run pm Tryz.prog _ [.vsl 0 0 (l.map enE).length] [some ⟨false,(vU.getD (0,0)).1,(vU.getD (0,0)).2,true,(l.map enE)⟩] _ _
  rw[Gr];(conv=>zeta)
  have ol:∀p,p≤l.length→(soL l p).length=p:=fun p hp=>by unfold soL;rw[fj,List.length_take];omega
  refine⟨⟨rfl,Nat.zero_le _⟩, ?_⟩
  intro p hp
  have hp:p≤l.length:=hp
  refine⟨fun hlt=>⟨⟨rfl,Nat.zero_le _,fun j hj=>by omega⟩, ?_⟩,fun hge=> ?_⟩
  ·have hlt:p<l.length:=by simp only[decide_eq_true_eq,List.length_map] at hlt;omega
   have B:0≤(p:Int)∧(p:Int)< ((l.map enE).length:Int):=by rw[List.length_map];omega
   have hol:=ol p hp
   rintro k ⟨h1,h2⟩
   refine⟨fun hk=> ?_,fun hk=> ?_⟩
   ·have hk:k<p:=by simpa using hk
    have Bk:0≤(k:Int)∧(k:Int)< (((soL l p).map enE).length:Int):=by rw[List.length_map];omega
    refine⟨by omega,eL Bk.1 Bk.2 (jl _),B,eL B.1 B.2 (jl _),fun hc=>⟨inR (by omega) (by omega),k+1,rfl,⟨by omega,fun j hj=> ?_⟩,by omega⟩,fun hc=> ?_⟩
    ·rcases Nat.lt_or_eq_of_le (Nat.le_of_lt_succ hj) with h|rfl
     ·exact h2 j h
     ·exact of_decide_eq_true hc
    have hz:k< (soL l p).length→¬cpE (at' (soL l p) k) (at' l p)≤0:=fun _=>of_decide_eq_false hc
    have hi:=Fq (by omega) h2 hz
    have hn:soL l (p+1)=(soL l p).take k++at' l p::(soL l p).drop k:=by
     rw[←hi]
     unfold soL
     rw[List.take_add_one,eZ hlt]
     exact zM _ _
    have e1:((soL l p).drop k).length=p-k:=by rw[List.length_drop];omega
    have e2:((soL l p).take k).length=k:=by rw[List.length_take];omega
    rw[show ((k:Int)).toNat=k from rfl,Nat.zero_add,Nat.zero_add,Nat.zero_add,Nat.sub_zero,←hn]
    refine⟨B,by rw[←Nat.zero_add ((p:Int)).toNat];exact eL B.1 B.2 (jl _),by omega,⟨by omega,by omega,by rw[List.length_map];omega,by simp⟩, ?_,by omega,⟨by omega,by omega,by rw[List.length_map];omega,by simp⟩, ?_,⟨by omega,by omega,by rw[List.length_map,List.length_cons];omega,by rw[List.length_map];omega⟩, ?_,inR (by omega) (by omega),p+1, ?_,(by omega:p+1≤l.length),by omega⟩
    ·rw[List.take_of_length_le (by rw[List.length_drop,List.length_map];omega),←List.map_drop];rfl
    ·rw[List.nil_append,List.drop_zero,List.map_take]
    ·have a1:List.take k (((soL l p).take k).map enE)=((soL l p).take k).map enE:=List.take_of_length_le (by rw[List.length_map];omega)
     have a2:List.take (1+(p-k)) ((at' l p::(soL l p).drop k).map enE)=(at' l p::(soL l p).drop k).map enE:=List.take_of_length_le (by rw[List.length_map,List.length_cons];omega)
     rw[a1,List.drop_zero,a2,←List.map_append,hn]
    ·unfold Gp
     rw[show k+(1+(p-k))=p+1 from by omega]
     rfl
   ·have hz:k< (soL l p).length→¬cpE (at' (soL l p) k) (at' l p)≤0:=fun h=>by simp only[decide_eq_false_iff_not] at hk;omega
    have hi:=Fq (by omega) h2 hz
    have hn:soL l (p+1)=(soL l p).take k++at' l p::(soL l p).drop k:=by
     rw[←hi]
     unfold soL
     rw[List.take_add_one,eZ hlt]
     exact zM _ _
    have e1:((soL l p).drop k).length=p-k:=by rw[List.length_drop];omega
    have e2:((soL l p).take k).length=k:=by rw[List.length_take];omega
    rw[show ((k:Int)).toNat=k from rfl,Nat.zero_add,Nat.zero_add,Nat.zero_add,Nat.sub_zero,←hn]
    refine⟨B,by rw[←Nat.zero_add ((p:Int)).toNat];exact eL B.1 B.2 (jl _),by omega,⟨by omega,by omega,by rw[List.length_map];omega,by simp⟩, ?_,by omega,⟨by omega,by omega,by rw[List.length_map];omega,by simp⟩, ?_,⟨by omega,by omega,by rw[List.length_map,List.length_cons];omega,by rw[List.length_map];omega⟩, ?_,inR (by omega) (by omega),p+1, ?_,(by omega:p+1≤l.length),by omega⟩
    ·rw[List.take_of_length_le (by rw[List.length_drop,List.length_map];omega),←List.map_drop];rfl
    ·rw[List.nil_append,List.drop_zero,List.map_take]
    ·have a1:List.take k (((soL l p).take k).map enE)=((soL l p).take k).map enE:=List.take_of_length_le (by rw[List.length_map];omega)
     have a2:List.take (1+(p-k)) ((at' l p::(soL l p).drop k).map enE)=(at' l p::(soL l p).drop k).map enE:=List.take_of_length_le (by rw[List.length_map,List.length_cons];omega)
     rw[a1,List.drop_zero,a2,←List.map_append,hn]
    ·unfold Gp
     rw[show k+(1+(p-k))=p+1 from by omega]
     rfl
  ·have hp:p=l.length:=by simp only[decide_eq_false_iff_not,List.length_map] at hge;omega
   subst hp
   unfold soL
   rw[List.take_length,List.length_map,fj]
   exact⟨rfl,rfl⟩
 ·exact hF.elim

end Go.Proofs.YtcabofadpheomaaGreat.L1
end

section
namespace Go.Proofs.YtcabofadpheomaaGreat.L1
open Go.Sx Go.Sx.M

def nW:List Arg→(Res→Prop)→Prop
 | [.v (.agg [.w64 v, .w64 w, .w64 m, .w64 n, .int .i64 k, .int .i64 j])],R=>R (.v (.bool (rtE ⟨v,w,m,n,k,j⟩)))
 |_,_=>False

def L5:List Arg→(Res→Prop)→Prop
 | [.v (.agg [.w64 a, .w64 b, .int .i64 k]), .v (.int .i64 j)],R=>R (.v (.agg [.w64 (a&&&mkW k), .w64 (b&&&mkW (k-64)), .w64 (mkW k), .w64 (mkW (k-64)), .int .i64 (clamp k), .int .i64 j]))
 |_,_=>False

def Qz:List Arg→(Res→Prop)→Prop
 | [.row r_l, .v (.agg [.w64 a, .w64 b])],R=>r_l=(deE r_l).map enE∧(deE r_l).length≤9223372036854775807∧R (.v (.tuple [.int .i64 (mx0 (fsI (deE r_l) a b)), .bool (decide (fsI (deE r_l) a b≥0))]))
 |_,_=>False

def rR:List Arg→(Res→Prop)→Prop
 | [.v (.agg [.w64 v, .w64 w, .w64 m, .w64 n, .int .i64 k, .int .i64 _]), .v (.agg [.w64 c, .w64 d, .w64 p, .w64 q, .int .i64 s, .int .i64 _])],R=>R (.v (.bool (alE ⟨v,w,m,n,k,0⟩ ⟨c,d,p,q,s,0⟩)))
 |_,_=>False

def ja:List Arg→(Res→Prop)→Prop
 | [.row r_l],R=>r_l=(deE r_l).map enE∧(deE r_l).length≤1000000∧R (.vrow 44 6 ((srE (deE r_l)).map enE))
 |_,_=>False

end Go.Proofs.YtcabofadpheomaaGreat.L1
end

section
namespace Go.Proofs.YtcabofadpheomaaGreat.L1
open Go.Sx Go.Sx.M

def MR:Par:=some (3,1)

def FJ:List Arg→(Res→Prop)→Prop
 | [.v (.int .i64 m), .v (.int .i64 n)],R=>R (.v (.int .i64 (jS m n)))
 |_,_=>False

def N0:List Arg→(Res→Prop)→Prop
 | [.row [.int .i64 a, .int .i64 b, .int .i64 c, .int .i64 d]],R=>R (.v (.int .i64 (orZ a (orZ b (orZ c d)))))
 |_,_=>False

theorem Oe{x:Int}(h:0≤x):mx0 x=x:=by unfold mx0;rw[if_neg (by omega)]

def RH:Modes:=⟨[0,0,0,0,2,0,0,0,0,0,0,0,0,0,0,0,0,0,0],[],[],[],[]⟩

def RF:AV:= .func (.func 126) [] [.ptr 1 0 0 true]

def J3(l:List En)(p:Nat):St:=
 ⟨[.vsl 0 0 (l.map enE).length, .any, .any, .int .i64 (mnG l p), .any, .any, .any, .vsl 0 0 (l.map enE).length, .int .i64 (l.map enE).length, .int .i64 p, .any, .any, .any, .any, .any, .any, .any, .any, .any, .any, .any, .any, .any, .any, .any, .any, .any, .any, .any, .any, .any],[some ⟨false,44,6,true,l.map enE⟩]⟩
def J2(l:List En)(p k:Nat):St:=
 ⟨[.vsl 0 0 p,RF, .any, .any, .any, .any, .any, .int .i64 p, .int .i64 k, .any, .any, .any, .any, .any, .any, .any, .any, .any, .any],[some ⟨false,44,6,true,l.map enE⟩,some ⟨true,44,6,true,[enE (at' l p)]⟩]⟩
def RD:Modes:=⟨[1,0,0,2,0,0,0,1,1,2,0,0,0,0,0,0,0,0,0,0,0,0,0,0,0,0,0,0,0,0,0],[],[],[],[]⟩
def eoM:Modes:=⟨[1,0,0,1,0,0,0,1,1,1,0,0,0,0,0,0,0,0,0,0,0,0,0,0,0,0,0,0,0,0,0],[],[],[],[]⟩
def RE:Modes:=⟨[0,0,2,0,0,0,0,0,0,0,0,0,0,0,0,0,0,0,0,0,0,0,0,0,0,0,0,0,0,0,0],[],[],[],[]⟩
def RC:Modes:=⟨[1,1,0,0,0,0,0,1,2,0,0,0,0,0,0,0,0,0,0],[],[],[],[]⟩
def eoN:Modes:=⟨[1,1,0,0,0,0,0,1,1,0,0,0,0,0,0,0,0,0,0],[],[],[],[]⟩
def L6(l:List En)(p k:Nat):Prop:=k≤p∧∀j,j<k→abE (at' l p) (at' l j)=false
def eoH(l:List En):List Hint:=[.linv _ 0 (J3 l) (fun p=>p≤l.length∧nH l p) (fun p=>l.length+1-p) RD eoM RE (fun _=>[]) fun p=>
 [.fork [.dy, .cell (enE (at' l p)), .fork [.ix p, .linv _ 0 (J2 l p) (L6 l p) (fun k=>l.length+1-k) RC eoN RH (fun _=>[.br true]) fun k=>
  [.fork [.dy, .cell (enE (at' l k)), .fork [] [.nw]] []]] [.nw]] []]]

theorem Kh(m n:Int)(r:AV):run [] Tryz.prog 98 [.int .i64 m, .int .i64 n] [] [.br false, .br false, .fork [] [.fork [] []]] (eM (.v r))=
  ((m !=m)=false∧(n !=n)=false∧(Decidable.decide (m<n)=true→AV.int IntKind.i64 (-1:Int)=r)∧(Decidable.decide (m<n)=false→(Decidable.decide (m>n)=true→AV.int IntKind.i64 (1:Int)=r)∧(Decidable.decide (m>n)=false→AV.int IntKind.i64 (0:Int)=r))):=by kernel_rfl

theorem FI:eJ Tryz.prog 98 (ey [none,none] FJ):=by
 refine eK fq fun l R hF=> ?_
 unfold FJ at hF
 split at hF
 ·rename_i m n
  refine⟨_,hF,rfl,[.br false, .br false, .fork [] [.fork [] []]], ?_⟩
  show run [] Tryz.prog _ [.int .i64 m, .int .i64 n] [] _ _
  rw[Kh]
  simp only[decide_eq_true_eq,decide_eq_false_iff_not]
  refine⟨by simp,by simp,fun h=> ?_,fun h=>⟨fun h2=> ?_,fun h2=> ?_⟩⟩
  all_goals
   congr 1
   unfold jS
  ·rw[if_pos h]
  ·rw[if_neg h,if_pos (by omega)]
  ·rw[if_neg h,if_neg (by omega)]
 ·exact hF.elim

theorem Lj(a b c d:Int)(r:AV):run [] Tryz.prog 115 [.vsl 0 0 4] [some ⟨false,3,1,true,[.int .i64 a, .int .i64 b, .int .i64 c, .int .i64 d]⟩] [.loop 5, .br true, .cell (.int .i64 a), .fork [] [.br true, .cell (.int .i64 b), .fork [] [.br true, .cell (.int .i64 c), .fork [] [.br true, .cell (.int .i64 d), .fork [] [.br false]]]]] (eM (.v r))=
  (let m:=(3:Int);let l:=(2:Int);let k:=(1:Int);let j:=(3:Nat);let i:=(0:Nat);let h:=(0:Int);let g:=(↑(4:Nat):Int);let f:=AV.int IntKind.i64;let e:=Blk.mk false (3:TypeId) (1:Nat) true [f a,f b,f c,f d];(Decidable.decide (h<g)=true∧(h≤h∧h<g)∧Blk.read Proofs.Tryz.prog e j (i+Int.toNat h) i=some (f a)∧((a !=h)=true→f a=r)∧((a !=h)=false→Decidable.decide (k<g)=true∧(h≤k∧k<g)∧Blk.read Proofs.Tryz.prog e j (i+Int.toNat k) i=some (f b)∧((b !=h)=true→f b=r)∧((b !=h)=false→Decidable.decide (l<g)=true∧(h≤l∧l<g)∧Blk.read Proofs.Tryz.prog e j (i+Int.toNat l) i=some (f c)∧((c !=h)=true→f c=r)∧((c !=h)=false→Decidable.decide (m<g)=true∧(h≤m∧m<g)∧Blk.read Proofs.Tryz.prog e j (i+Int.toNat m) i=some (f d)∧((d !=h)=true→f d=r)∧((d !=h)=false→Decidable.decide ((4:Int)<g)=false∧f h=r)))))):=by kernel_rfl

theorem NZ:eJ Tryz.prog 115 (ey [MR] N0):=by
 refine eK fq fun l R hF=> ?_
 unfold N0 at hF
 split at hF
 ·rename_i a b c d
  refine⟨_,hF,rfl,[.loop 5, .br true, .cell (.int .i64 a), .fork [] [.br true, .cell (.int .i64 b), .fork [] [.br true, .cell (.int .i64 c), .fork [] [.br true, .cell (.int .i64 d), .fork [] [.br false]]]]], ?_⟩
  show run [] Tryz.prog _ [.vsl 0 0 4] [some ⟨false,3,1,true,[.int .i64 a, .int .i64 b, .int .i64 c, .int .i64 d]⟩] _ _
  rw[Lj];(conv=>zeta)
  refine⟨by decide,by decide,by kernel_rfl,fun h=> ?_,fun h=>⟨by decide,by decide,by kernel_rfl,fun h2=> ?_,fun h2=>⟨by decide,by decide,by kernel_rfl,fun h3=> ?_,fun h3=>⟨by decide,by decide,by kernel_rfl,fun h4=> ?_,fun h4=>⟨by decide, ?_⟩⟩⟩⟩⟩
  all_goals
   congr 1
   unfold orZ
   simp only[bne_iff_ne,ne_eq,bne_eq_false_iff_eq] at*
  ·rw[if_neg h]
  ·rw[if_pos h,if_neg h2]
  ·rw[if_pos h,if_pos h2,if_neg h3]
  ·rw[if_pos h,if_pos h2,if_pos h3]
  ·rw[if_pos h,if_pos h2,if_pos h3,h4]
 ·exact hF.elim

noncomputable def np:List (FuncId×Sx.Spec):=[(107,ey [none] wX)]

theorem Ej(v w m n:BitVec 64)(k j:Int)(r:AV):run np Tryz.prog 64 [.agg [.w64 v, .w64 w, .w64 m, .w64 n, .int .i64 k, .int .i64 j]] [] [.fork [.fork [.fork [.fork [] []] []] []] []] (eM (.v r))=
  (((v&&&m==v&&w&&&n==w)=true→(Decidable.decide ((0:Int)≤k)=true→(Decidable.decide (k≤(128:Int))=true→(Decidable.decide ((1:Int)≤j)=true→AV.bool (Decidable.decide (j≤(255:Int)))=r)∧(Decidable.decide ((1:Int)≤j)=false→AV.bool false=r))∧(Decidable.decide (k≤(128:Int))=false→AV.bool false=r))∧(Decidable.decide ((0:Int)≤k)=false→AV.bool false=r))∧((v&&&m==v&&w&&&n==w)=false→AV.bool false=r)):=by kernel_rfl

theorem BN:∀e∈np,eJ Tryz.prog e.1 e.2:=by
 intro e he
 simp only[np,List.mem_cons,List.not_mem_nil,or_false] at he
 rcases he with rfl
 ·exact Ga

theorem nV:eJ Tryz.prog 64 (ey [none] nW):=by
 refine eK (eS (l:=np) BN mixed noNG) fun l R hF=> ?_
 unfold nW at hF
 split at hF
 ·rename_i v w m n k j
  refine⟨_,hF,rfl,[.fork [.fork [.fork [.fork [] []] []] []] []], ?_⟩
  show run np Tryz.prog _ [.agg [.w64 v, .w64 w, .w64 m, .w64 n, .int .i64 k, .int .i64 j]] [] _ _
  rw[Ej]
  refine⟨fun h=>⟨fun h1=>⟨fun h2=>⟨fun h3=> ?_,fun h3=> ?_⟩,fun h2=> ?_⟩,fun h1=> ?_⟩,fun h=> ?_⟩
  ·rw[show rtE ⟨v,w,m,n,k,j⟩=((v&&&m==v&&w&&&n==w)&&(decide (0≤k)&&(decide (k≤128)&&(decide (1≤j)&&decide (j≤255))))) from rfl,h,h1,h2,h3];rfl
  ·rw[show rtE ⟨v,w,m,n,k,j⟩=((v&&&m==v&&w&&&n==w)&&(decide (0≤k)&&(decide (k≤128)&&(decide (1≤j)&&decide (j≤255))))) from rfl,h,h1,h2,h3];rfl
  ·rw[show rtE ⟨v,w,m,n,k,j⟩=((v&&&m==v&&w&&&n==w)&&(decide (0≤k)&&(decide (k≤128)&&(decide (1≤j)&&decide (j≤255))))) from rfl,h,h1,h2];rfl
  ·rw[show rtE ⟨v,w,m,n,k,j⟩=((v&&&m==v&&w&&&n==w)&&(decide (0≤k)&&(decide (k≤128)&&(decide (1≤j)&&decide (j≤255))))) from rfl,h,h1];rfl
  ·rw[show rtE ⟨v,w,m,n,k,j⟩=((v&&&m==v&&w&&&n==w)&&(decide (0≤k)&&(decide (k≤128)&&(decide (1≤j)&&decide (j≤255))))) from rfl,h];rfl
 ·exact hF.elim

noncomputable def BR:List (FuncId×Sx.Spec):=[(62,ey [none,none] AE),
 (63,ey [none] Nv)]

theorem L0(a b:BitVec 64)(k j:Int)(r:AV):run BR Tryz.prog 31 [.agg [.w64 a, .w64 b, .int .i64 k], .int .i64 j] [] [] (eM (.v r))=
  (AV.agg [AV.w64 (a&&&mkW k&&&mkW (clamp k)),AV.w64 (b&&&mkW (k-(64:Int))&&&mkW (clamp k-(64:Int))),AV.w64 (mkW (clamp k)),AV.w64 (mkW (clamp k-(64:Int))),AV.int IntKind.i64 (clamp k),AV.int IntKind.i64 j]=r):=by kernel_rfl

theorem J1:∀e∈BR,eJ Tryz.prog e.1 e.2:=by
 intro e he
 simp only[BR,List.mem_cons,List.not_mem_nil,or_false] at he
 rcases he with rfl|rfl
 ·exact sN
 ·exact Nu

theorem J0:eJ Tryz.prog 31 (ey [none,none] L5):=by
 refine eK (eS (l:=BR) J1 mixed noNG) fun l R hF=> ?_
 unfold L5 at hF
 split at hF
 ·rename_i a b k j
  refine⟨_,hF,rfl,[], ?_⟩
  show run BR Tryz.prog _ [.agg [.w64 a, .w64 b, .int .i64 k], .int .i64 j] [] _ _
  rw[L0]
  rw[(kW k).1,(kW k).2,BitVec.and_assoc,BitVec.and_self,BitVec.and_assoc,BitVec.and_self]
 ·exact hF.elim

noncomputable def nq:List (FuncId×Sx.Spec):=[(130,ey [none,none] w9)]

theorem Em(v w m n:BitVec 64)(k j:Int)(c d p q:BitVec 64)(s t:Int)(r:AV):run nq Tryz.prog 103 [.agg [.w64 v, .w64 w, .w64 m, .w64 n, .int .i64 k, .int .i64 j], .agg [.w64 c, .w64 d, .w64 p, .w64 q, .int .i64 s, .int .i64 t]] [] [.fork [] []] (eM (.v r))=
  ((Decidable.decide (k>s)=true→AV.bool (wtB v w m n c d p q)=r)∧(Decidable.decide (k>s)=false→AV.bool false=r)):=by kernel_rfl

theorem BT:∀e∈nq,eJ Tryz.prog e.1 e.2:=by
 intro e he
 simp only[nq,List.mem_cons,List.not_mem_nil,or_false] at he
 rcases he with rfl
 ·exact zz

theorem qL:eJ Tryz.prog 103 (ey [none,none] pp):=by
 refine eK (eS (l:=nq) BT mixed noNG) fun l R hF=> ?_
 unfold pp at hF
 split at hF
 ·rename_i v w m n k j c d p q s t
  refine⟨_,hF,rfl,[.fork [] []], ?_⟩
  show run nq Tryz.prog _ [.agg [.w64 v, .w64 w, .w64 m, .w64 n, .int .i64 k, .int .i64 j], .agg [.w64 c, .w64 d, .w64 p, .w64 q, .int .i64 s, .int .i64 t]] [] _ _
  rw[Em]
  unfold abE
  refine⟨fun h=> ?_,fun h=> ?_⟩
  ·rw[show decide (k>s)=true from h,Bool.true_and];rfl
  ·rw[show decide (k>s)=false from h,Bool.false_and]
 ·exact hF.elim

theorem El(v w m n:BitVec 64)(k j:Int)(c d p q:BitVec 64)(s t:Int)(r:AV):run [] Tryz.prog 132 [.agg [.w64 v, .w64 w, .w64 m, .w64 n, .int .i64 k, .int .i64 j], .agg [.w64 c, .w64 d, .w64 p, .w64 q, .int .i64 s, .int .i64 t]] [] [.fork [] []] (eM (.v r))=
  (((v==c&&w==d&&(m==p&&n==q))=true→AV.bool (k==s)=r)∧((v==c&&w==d&&(m==p&&n==q))=false→AV.bool false=r)):=by kernel_rfl

theorem wn:eJ Tryz.prog 132 (ey [none,none] rR):=by
 refine eK fq fun l R hF=> ?_
 unfold rR at hF
 split at hF
 ·rename_i v w m n k j c d p q s t
  refine⟨_,hF,rfl,[.fork [] []], ?_⟩
  show run [] Tryz.prog _ [.agg [.w64 v, .w64 w, .w64 m, .w64 n, .int .i64 k, .int .i64 j], .agg [.w64 c, .w64 d, .w64 p, .w64 q, .int .i64 s, .int .i64 t]] [] _ _
  rw[El]
  refine⟨fun h=> ?_,fun h=> ?_⟩
  ·unfold alE
   rw[show (v==c&&w==d&&(m==p&&n==q))=true from h,Bool.true_and]
  ·unfold alE
   rw[show (v==c&&w==d&&(m==p&&n==q))=false from h,Bool.false_and]
 ·exact hF.elim

noncomputable def jQ:List (FuncId×Sx.Spec):=[(103,ey [none,none] pp)]

theorem yU(l:List En)(r:AV):run jQ Tryz.prog 100 [.vsl 0 0 (l.map enE).length] [some ⟨false,(pEn.getD (0,0)).1,(pEn.getD (0,0)).2,true,(l.map enE)⟩] (eoH l) (eM (.v r))=
  (let C:=AV.w64;let B:=(1:Int);let z:=(0:Int);let u:=(1:Nat);let q:=List.length l;let k:=(0:Nat);let D:=[AV.ptr (k+u) k k true];let i:=List.length (List.map enE l);let x:=(↑(i):Int);let t:=AV.vsl k k (i);let h:=AV.int IntKind.i64;let g:=Blk.mk false (44:TypeId) (6:Nat) true (List.map enE l);let f:=AV.any;((St.mk [t,f,f,h (9223372036854775807:Int),f,f,f,t,h x,h z,f,f,f,f,f,f,f,f,f,f,f,f,f,f,f,f,f,f,f,f,f] [some g]=J3 l k∧k≤q∧nH l k)∧∀(a:Nat),let o:=(↑a:Int);let E:=Decidable.decide (o<x);let j:=at' l a;let A:=Decidable.decide (j.5>mnG l a);let y:=h (if j.5<mnG l a then j.5 else mnG l a);let m:=AV.agg [C j.1,C j.2,C j.3,C j.4,h j.5,h j.6];a≤q∧nH l a→(E=true→(z≤o∧o<x)∧Blk.read Proofs.Tryz.prog g (44:Nat) (k+Int.toNat o) k=some (m)∧(A=true→o=o∧a<i+u∧(St.mk [AV.vsl k (k+k) (a-k),AV.func (Fn.func (126:Nat)) [] D,f,f,f,f,f,h (↑(a-k):Int),h z,f,f,f,f,f,f,f,f,f,f] [some g,some (Blk.mk true (nat_lit 44) (6:Nat) true [m])]=J2 l a k∧L6 l a k)∧∀(b:Nat),let w:=(↑b:Int);let F:=Decidable.decide (w<o);let n:=at' l b;let s:=abE (En.mk j.1 j.2 j.3 j.4 j.5 j.6) (En.mk n.1 n.2 n.3 n.4 n.5 n.6);L6 l a b→(F=true→(z≤w∧w<o)∧Blk.read Proofs.Tryz.prog g (44:Nat) (k+Int.toNat w) k=some (AV.agg [C n.1,C n.2,C n.3,C n.4,h n.5,h n.6])∧(s=true→Decidable.decide (w≥z)=true∧AV.bool false=r)∧(s=false→inRange IntKind.i64 (w+B)∧∃(c:Nat),St.mk [AV.vsl k k a,AV.func (Fn.func (126:FuncId)) [] D,f,f,f,f,f,h o,h (w+B),f,f,f,f,f,f,f,f,f,f] [some g,some (Blk.mk true (44:TypeId) (6:Nat) true [m])]=J2 l a c∧L6 l a c∧q+u-c<q+u-b))∧(F=false→∃(d:Nat),St.mk [t,f,f,y,f,f,f,t,h x,h (IntKind.wrap IntKind.i64 (o+B)),f,f,f,f,f,f,f,f,f,f,f,f,f,f,f,f,f,f,f,f,f] [some g]=J3 l d∧(d≤q∧nH l d)∧q+u-d<q+u-a))∧(A=false→inRange IntKind.i64 (o+B)∧∃(e:Nat),St.mk [t,f,f,y,f,f,f,t,h x,h (o+B),f,f,f,f,f,f,f,f,f,f,f,f,f,f,f,f,f,f,f,f,f] [some g]=J3 l e∧(e≤q∧nH l e)∧q+u-e<q+u-a))∧(E=false→AV.bool true=r))):=by kernel_rfl

theorem vr:∀e∈jQ,eJ Tryz.prog e.1 e.2:=by
 intro e he
 simp only[jQ,List.mem_cons,List.not_mem_nil,or_false] at he
 rcases he with rfl
 ·exact qL

theorem BQ:eJ Tryz.prog 100 (ey [pEn] ql):=by
 refine eK (eS (l:=jQ) vr mixed noNG) fun l R hF=> ?_
 unfold ql at hF
 split at hF
 ·rename_i r_l
  obtain⟨hr_l,hl,hF⟩:=hF
  generalize deE r_l=l at hr_l hl hF
  subst hr_l
  refine⟨_,hF,rfl,(eoH l), ?_⟩
  show run jQ Tryz.prog _ [.vsl 0 0 (l.map enE).length] [some ⟨false,(pEn.getD (0,0)).1,(pEn.getD (0,0)).2,true,(l.map enE)⟩] _ _
  rw[yU];(conv=>zeta)
  refine⟨⟨rfl,Nat.zero_le _,fun k hk=>by omega⟩, ?_⟩
  rintro p ⟨h1,h2⟩
  refine⟨fun hlt=> ?_,fun hge=> ?_⟩
  ·have hp:p<l.length:=by simp only[decide_eq_true_eq,List.length_map] at hlt;omega
   have B:0≤(p:Int)∧(p:Int)< ((l.map enE).length:Int):=by rw[List.length_map];omega
   have nx:∀x:Int,x=(p:Int)+1→nH l (p+1)→∃p',(⟨[.vsl 0 0 (l.map enE).length, .any, .any, .int .i64 (if (at' l p).len<mnG l p then (at' l p).len else mnG l p), .any, .any, .any, .vsl 0 0 (l.map enE).length, .int .i64 (l.map enE).length, .int .i64 x, .any, .any, .any, .any, .any, .any, .any, .any, .any, .any, .any, .any, .any, .any, .any, .any, .any, .any, .any, .any, .any],[some ⟨false,44,6,true,l.map enE⟩]⟩:St)=J3 l p'∧(p'≤l.length∧nH l p')∧l.length+1-p'<l.length+1-p:=fun x hx h=>⟨p+1,by subst hx;rfl,⟨by omega,h⟩,by omega⟩
   refine⟨B,eL B.1 B.2 (fK _),fun hg=>⟨rfl,by rw[List.length_map];omega,⟨rfl,Nat.zero_le _,fun j hj=>by omega⟩, ?_⟩,fun hg=>⟨inR (by omega) (by omega),nx _ rfl (h2.short (of_decide_eq_false hg))⟩⟩
   rintro k ⟨h3,h4⟩
   refine⟨fun hlt=> ?_,fun hge=>nx _ (lE (inR (by omega) (by omega))) (h2.next fun i hi=>h4 i (by simp only[decide_eq_false_iff_not] at hge;omega))⟩
   have hk:(k:Int)<p:=of_decide_eq_true hlt
   refine⟨⟨by omega,hk⟩,eL (by omega) (by rw[List.length_map];omega) (fK _),fun ha=>⟨by simp, ?_⟩,fun ha=>⟨inR (by omega) (by omega),k+1,rfl,⟨by omega,up h4 ha⟩,by omega⟩⟩
   rw[Lu nH.all fun h=>by
    have:=h p hp k (by omega)
    rw[show abE (at' l p) (at' l k)=true from ha] at this;cases this]
  ·have hp:p=l.length:=by simp only[decide_eq_false_iff_not,List.length_map] at hge;omega
   subst hp
   rw[nH.all.2 h2]
 ·exact hF.elim

noncomputable def jR:List (FuncId×Sx.Spec):=[(116,ey [none,none] B9),
 (98,ey [none,none] FJ),
 (115,ey [MR] N0)]

noncomputable def gK(v w m n:BitVec 64)(k j:Int)(c d p q:BitVec 64)(s t:Int):St:=St.mk [AV.any,AV.any,AV.any,AV.any,AV.int IntKind.i64 (orZ (jS s k) (orZ (cmpV (V v w) (V c d)) (orZ (cmpV (V m n) (V p q)) (jS j t)))),AV.any,AV.any,AV.any,AV.any,AV.any,AV.any,AV.any,AV.any,AV.any,AV.any,AV.any,AV.any,AV.any,AV.any,AV.any,AV.any,AV.any,AV.any,AV.any,AV.any,AV.any,AV.any,AV.any,AV.any,AV.any,AV.any] []

theorem yW(v w m n:BitVec 64)(k j:Int)(c d p q:BitVec 64)(s t:Int)(r:AV):run jR Tryz.prog 78 [.agg [.w64 v, .w64 w, .w64 m, .w64 n, .int .i64 k, .int .i64 j], .agg [.w64 c, .w64 d, .w64 p, .w64 q, .int .i64 s, .int .i64 t]] [] [.cut 31 [4] (gK v w m n k j c d p q s t) []] (eM (.v r))=
  ((∃(_:Unit),(gK v w m n k j c d p q s t)=(gK v w m n k j c d p q s t)∧True)∧∀(_:Unit),True→AV.int IntKind.i64 (orZ (jS s k) (orZ (cmpV (V v w) (V c d)) (orZ (cmpV (V m n) (V p q)) (jS j t))))=r):=by kernel_rfl

theorem vw:∀e∈jR,eJ Tryz.prog e.1 e.2:=by
 intro e he
 simp only[jR,List.mem_cons,List.not_mem_nil,or_false] at he
 rcases he with rfl|rfl|rfl
 ·exact F5
 ·exact FI
 ·exact NZ

theorem ri:eJ Tryz.prog 78 (ey [none,none] jm):=by
 refine eK (eS (l:=jR) vw mixed noNG) fun l R hF=> ?_
 unfold jm at hF
 split at hF
 ·rename_i v w m n k j c d p q s t
  refine⟨_,hF,rfl,[.cut 31 [4] (gK v w m n k j c d p q s t) []], ?_⟩
  show run jR Tryz.prog _ [.agg [.w64 v, .w64 w, .w64 m, .w64 n, .int .i64 k, .int .i64 j], .agg [.w64 c, .w64 d, .w64 p, .w64 q, .int .i64 s, .int .i64 t]] [] _ _
  rw[yW]
  exact⟨⟨(),rfl,trivial⟩,fun _ _=>rfl⟩
 ·exact hF.elim

end Go.Proofs.YtcabofadpheomaaGreat.L1
end

